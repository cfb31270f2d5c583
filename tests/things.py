"""Things of every kind that may be handed in where something else is asked."""

from lookthrough import errors
from lookthrough.players import Player


def nested(depth, wrap):
    thing = 0
    for _ in range(depth):
        thing = wrap(thing)
    return thing


def some_player():
    return Player(["c", "d"], [("false",), ("shown", 2, 0)], [1])


def no_lists():
    """Things that are neither lists nor tuples."""
    return [None, True, False, 0, 1, -1, 2000, 10 ** 39, "", "c", "false", "shown 0 1",
            {}, {0: ("false",)}, {"c": 1}, some_player(), errors.NoRow(0),
            nested(30, lambda thing: {"in": thing})]


def no_numbers():
    """Things that are no numbers, truths among them."""
    return [None, True, False, "", "0", "c", [], [0], (), (0,), {}, {0: 0}, some_player(),
            nested(30, lambda thing: [thing]), nested(30, lambda thing: (thing,))]


def no_moves_names():
    """Things that are no move."""
    return [None, True, False, 0, 1, -7, "", "C", "cD", "c1", "1", "c d", " c", "c ", "c\n", "\n",
            "a-b", "a_b", "abcdefghi", "false.", "~", "`", "{", "@", "[", [], ["c"], (), ("c",),
            {}, {"c": "c"}, some_player(), nested(30, lambda thing: [thing])]
