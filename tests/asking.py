"""What the tests of several files share: how a refusal is looked at, and things that are refused."""

import unittest

from lookthrough.desk import Desk
from lookthrough.errors import SightError
from lookthrough.facing import Faced
from lookthrough.house import House
from lookthrough.machines import Machine
from lookthrough.meetings import Meeting
from lookthrough.worths import Table
from things import nested, no_lists, no_numbers, some_player


class Asked(unittest.TestCase):

    def refused(self, kind, fields, asked, *things, **named):
        """By its exact class and its fields' values: a truth is no number there."""
        with self.assertRaises(SightError) as caught:
            asked(*things, **named)
        self.assertIs(type(caught.exception), kind)
        self.assertIsInstance(caught.exception, ValueError)
        self.assertEqual(vars(caught.exception), fields)
        for name, value in fields.items():
            self.assertIs(type(vars(caught.exception)[name]), type(value))


def other_objects():
    """Objects of this package that are no players."""
    return [Meeting([some_player()]), Faced(some_player(), [], "c"), Machine(["c"], [("c", (0,))]),
            Table(["c"], ["d"], {("c", "d"): (0, 0)}), House(), Desk()]


def no_players():
    """Things that are no player."""
    things = [thing for thing in no_lists() if thing != some_player()]
    return things + [[], [some_player()], (some_player(),), {"c": some_player()}, *other_objects(),
                     nested(30, lambda thing: [thing])]


def no_levels():
    """Things that are no level."""
    return [-1, -2, -10 ** 9, 10 ** 9 + 1, 10 ** 9 + 2, 10 ** 39, -10 ** 39, *no_numbers(),
            *other_objects(), [1, [2, {"c": (3, [4])}]]]


def no_others():
    """Things that are no list of 1 to 4 unlike moves."""
    return [*no_lists(), [], (), ["c", "c"], ["c", "d", "c"], ["c", "d", "e", "f", "g"], ["c", "D"], ["c", ""],
            ["abcdefghi"], [None], [["c"]], [("c",)], [True], [0], *other_objects(), nested(30, lambda thing: [thing])]
