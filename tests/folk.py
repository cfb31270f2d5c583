"""Players that the tests of several files share, and what is no stand of one."""

from lookthrough.players import Player
from asking import other_objects
from things import nested, no_lists, no_numbers, some_player

CD = ["c", "d"]
FALSE = ("false",)
T, F = True, False


def till(level):
    return Player(CD, [FALSE, ("shown", level, 0)], [1])


def trusting(k):
    return Player(CD, [FALSE, ("does", 1, "c"), ("shown", k, 1)], [2])


def nots(k, many):
    """Trusting, but through a chain of so many nots, an even number."""
    rows = [("does", 1, "c"), ("shown", k, 0)]
    return Player(CD, rows + [("not", at) for at in range(1, many + 1)], [many + 1])


def password(*letters):
    """Does c as long as at the first levels just these letters were done, one after another."""
    rows = [FALSE, ("not", 0)]
    since = right = 1
    for level, letter in enumerate(letters):
        at = len(rows)
        # at + 2 holds at this level alone, at + 5 where the letter is done or it is another level.
        rows += [("shown", level, 0), ("not", at), ("and", since, at), ("not", at + 2), ("does", 1, letter),
                 ("or", at + 3, at + 4), ("and", right, at + 5)]
        since, right = at + 1, at + 6
    return Player(CD, rows + [("shown", 0, right)], [len(rows)])


def no_stands(player):
    """Things that are no stand of a player with at least a shown."""
    top, many = player.top(), len(player.showns())
    held = (T,) * many
    wrong = [(-1, held), (top + 1, held), (10 ** 9, held), (0, held + (T,)), (0, held[1:]), (0, ()), (0, list(held)),
             [0, held], [0, list(held)], (0,), (0, held, T), (0, held, held), (held, 0), held, (0, (1,) * many),
             (0, held[1:] + (1,)), (0, held[1:] + (0,)), (0, held[1:] + (None,)), (0, held[1:] + ("c",)),
             (0, held[1:] + ((T,),)), (0, held[1:] + ([T],)), (0, None), (0, True), (0, 1), (0, "c"),
             (0, dict.fromkeys(range(many), T)), (0, (some_player(),) * many), (), ((0, held),)]
    wrong += [(thing, held) for thing in no_numbers() + other_objects()]
    return wrong + no_lists() + [[], *other_objects(), nested(30, lambda thing: (0, thing))]
