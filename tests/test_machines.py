"""[80], and [2](d), [3] and [4] of it: machines, the least ones, and those of players."""

import random
import unittest

from lookthrough.endings import endings
from lookthrough.errors import NoLetter, NoMachine, NoMoves, NoPlayers
from lookthrough.facing import Faced
from lookthrough.machines import Machine, machine_of
from lookthrough.players import Player, plain
import plainly
from asking import Asked, no_others, no_players, other_objects
from folk import CD, FALSE, nots, password, till, trusting
from plainmachines import behind, chain, least_plainly, lying_on_ways, pin, some_rows
from things import nested, no_lists, no_moves_names, no_numbers, some_player

REST = ("c", (0, 0))


def row_of(to):
    return ("c", (to,))


class Made(Asked):

    def test_letters_and_rows(self):
        for letters, rows in ((["c"], [("d", (0,))]), (["c", "d"], [REST]), (CD, [("x", (0, 1)), ("y", (1, 1))]),
                              (["c", "d", "e", "f"], [("abcdefgh", (0,) * 4)])):
            for machine in (Machine(letters, rows), Machine(tuple(letters), tuple(rows)),
                            Machine(rows=rows, letters=letters)):
                self.assertEqual(machine.letters(), tuple(letters))
                self.assertEqual(machine.rows(), tuple(rows))
                self.assertIs(type(machine.letters()), tuple)
                self.assertIs(type(machine.rows()), tuple)

    def test_lists_that_are_changed_behind(self):
        letters, rows = ["c", "d"], [("x", (0, 1)), ("y", (1, 1))]
        machine = Machine(letters, rows)
        letters[0] = "z"
        letters.append("w")
        rows[0] = None
        rows.clear()
        self.assertEqual(machine.letters(), ("c", "d"))
        self.assertEqual(machine.rows(), (("x", (0, 1)), ("y", (1, 1))))
        self.assertEqual(machine.does(["d"]), "y")
        self.assertEqual(machine, Machine(CD, [("x", (0, 1)), ("y", (1, 1))]))

    def test_what_is_handed_in_stays(self):
        letters, rows, word = ["c", "d"], [("x", (0, 1)), ("x", (1, 1))], ["c", "d"]
        machine = Machine(letters, rows)
        machine.least()
        machine.does(word)
        self.assertEqual((letters, rows, word), (["c", "d"], [("x", (0, 1)), ("x", (1, 1))], ["c", "d"]))
        self.assertEqual(machine.rows(), tuple(rows))
        bad = [("x", (1,)), ("x", (0,))]
        self.refused(NoMachine, {"at": 0}, Machine, ["c"], bad)
        self.assertEqual(bad, [("x", (1,)), ("x", (0,))])

    def test_few_and_many_rows(self):
        for many in (1, 2, 3, 399, 400):
            rows = [row_of(min(at + 1, many - 1)) for at in range(many)]
            self.assertEqual(len(Machine(["x"], rows).rows()), many)
            self.assertEqual(Machine(["x"], [row_of(at) for at in range(many)]).rows()[-1], row_of(many - 1))

    def test_no_letters(self):
        for letters in no_others():
            with self.subTest(letters=letters):
                self.refused(NoMoves, {}, Machine, letters, [REST])
                # Ahead of the rows.
                for rows in (None, [], [None], [("c", (1, 1)), ("c", (0, 0))]):
                    self.refused(NoMoves, {}, Machine, letters, rows)

    def test_no_list_of_rows(self):
        for rows in [*no_lists(), [], (), *other_objects()]:
            with self.subTest(rows=rows):
                self.refused(NoMachine, {"at": 0}, Machine, CD, rows)

    def wrong_rows(self):
        """Things that are no row of a machine of two letters and three rows or fewer."""
        wrong = [("c", [0, 0]), ["c", (0, 0)], ["c", [0, 0]], ("c", 0, 0), ("c",), ("c", (0,)), ("c", (0, 0, 0)),
                 ("c", ()), ("c", (0, 3)), ("c", (3, 0)), ("c", (-1, 0)), ("c", (0, 10 ** 39)), ("c", (0, -10 ** 39)),
                 ("c", (0, 0), ()), ((0, 0), "c"), (), ("c", None), ("c", "00"), ("c", {0: 0, 1: 0}), ("cc",)]
        wrong += [("c", (0, thing)) for thing in no_numbers()] + [("c", (thing, 0)) for thing in no_numbers()]
        wrong += [(thing, (0, 0)) for thing in no_moves_names() + other_objects()]
        return wrong + no_lists() + other_objects() + [nested(29, lambda thing: (thing, thing))]

    def test_no_row_of_a_machine(self):
        for wrong in self.wrong_rows():
            with self.subTest(wrong=wrong):
                self.refused(NoMachine, {"at": 0}, Machine, CD, [wrong])
                self.refused(NoMachine, {"at": 1}, Machine, CD, [REST, wrong])
                self.refused(NoMachine, {"at": 1}, Machine, CD, (REST, wrong, wrong))
                self.refused(NoMachine, {"at": 2}, Machine, CD, [("c", (2, 2)), REST, wrong])

    def test_as_many_tos_as_letters(self):
        for many in (1, 2, 3, 4):
            letters = ["c", "d", "e", "f"][:many]
            for tos in range(6):
                if tos == many:
                    self.assertEqual(Machine(letters, [("c", (0,) * tos)]).rows(), (("c", (0,) * tos),))
                else:
                    self.refused(NoMachine, {"at": 0}, Machine, letters, [("c", (0,) * tos)])

    def test_too_many_rows(self):
        for many in (401, 402, 1000):
            for rows in ([row_of(0)] * many, [row_of(at) for at in range(many)],
                         [row_of(min(at + 1, many - 1)) for at in range(many)], [row_of(0)] * 400 + [None] * 600):
                self.refused(NoMachine, {"at": 400}, Machine, ["x"], rows)
            # A row that isn't of the form, below 400, comes first, a way back comes behind.
            self.refused(NoMachine, {"at": 7}, Machine, ["x"], [row_of(0)] * 7 + [None] * many)
            self.refused(NoMachine, {"at": 399}, Machine, ["x"], [row_of(0)] * 399 + [("c", ())] + [row_of(0)] * many)
            self.refused(NoMachine, {"at": 400}, Machine, ["x"], [row_of(1), row_of(0)] * many)

    def test_ways_back(self):
        for rows, at in (([1, 0], 0), ([0, 2, 1], 1), ([1, 2, 0], 0), ([1, 2, 1], 1), ([1, 2, 3, 2], 2),
                         ([1, 2, 3, 4, 1], 1), ([3, 1, 2, 3, 5, 4], 4), ([1, 1, 3, 2], 2), ([1, 2, 3, 3, 0, 6, 5], 5),
                         (list(range(1, 400)) + [0], 0), (list(range(1, 400)) + [200], 200),
                         (list(range(1, 400)) + [398], 398), ([0] + [at - 1 for at in range(1, 399)] + [399], None),
                         ([1, 2, 2], None), ([0, 1, 2], None), ([2, 0, 2], None), ([0], None)):
            with self.subTest(rows=rows):
                made = [row_of(to) for to in rows]
                if at is None:
                    self.assertEqual(Machine(["x"], made).rows(), tuple(made))
                else:
                    self.refused(NoMachine, {"at": at}, Machine, ["x"], made)

    def test_ways_back_of_several_letters(self):
        for rows, at in (([(1, 0), (1, 0)], 0), ([(0, 1), (2, 1), (2, 1)], 1), ([(1, 2), (3, 1), (2, 3), (3, 3)], None),
                         # From 0 a way leads to the ring of 1 and 2, and from there to 3: these lie on none.
                         ([(0, 1), (2, 1), (1, 3), (3, 3)], 1), ([(3, 3), (2, 1), (1, 0), (3, 3)], 1),
                         # Between two rings.
                         ([(1, 1), (2, 2), (3, 5), (4, 4), (3, 3), (0, 0)], 0),
                         ([(0, 2), (1, 4), (3, 2), (2, 1), (5, 1), (4, 4)], 1)):
            with self.subTest(rows=rows):
                made = [("c", tos) for tos in rows]
                if at is None:
                    self.assertEqual(Machine(CD, made).rows(), tuple(made))
                else:
                    self.refused(NoMachine, {"at": at}, Machine, CD, made)

    def test_form_ahead_of_ways(self):
        self.refused(NoMachine, {"at": 2}, Machine, ["x"], [row_of(1), row_of(0), ("c", (3,))])
        self.refused(NoMachine, {"at": 0}, Machine, ["x"], [row_of(1), row_of(0), row_of(2)])
        self.refused(NoMachine, {"at": 4}, Machine, ["x"], [row_of(1), row_of(0)] * 2 + [None, None])

    def test_ways_held_against_plain_ones(self):
        seed = random.Random(80)
        made = 0
        for _ in range(300):
            letters = ["c", "d", "e"][:seed.randint(1, 3)]
            many = seed.randint(1, 9)
            rows = some_rows(seed, many, letters, ["c"])
            for _ in range(seed.choice([0, 1, 3, 4])):
                at = seed.randrange(many)
                rows[at] = ("c", tuple(seed.choice([to, to, seed.randrange(many)]) for to in rows[at][1]))
            ways = lying_on_ways(rows)
            with self.subTest(rows=rows):
                if ways:
                    self.refused(NoMachine, {"at": ways[0]}, Machine, letters, rows)
                else:
                    made += 1
                    self.assertEqual(Machine(letters, rows).rows(), tuple(rows))
        self.assertGreater(made, 50)
        self.assertLess(made, 280)


class Equal(unittest.TestCase):

    def test_equal_and_unlike(self):
        rows = [("x", (0, 1)), ("y", (1, 1))]
        machine = Machine(CD, rows)
        for other in (Machine(CD, rows), Machine(("c", "d"), tuple(rows)), machine):
            self.assertTrue(machine == other)
            self.assertFalse(machine != other)
        for other in (Machine(["d", "c"], rows), Machine(["c", "e"], rows), Machine(CD, [("y", (0, 1)), rows[1]]),
                      Machine(CD, [("x", (1, 1)), rows[1]]), Machine(CD, rows[1:] * 0 + [("x", (0, 0))]),
                      Machine(CD, rows + [("x", (2, 2))])):
            self.assertFalse(machine == other)
            self.assertTrue(machine != other)

    def test_to_no_other_kind(self):
        machine = Machine(CD, [REST])
        things = [*no_lists(), [], (), (("c", "d"), (REST,)), [CD, [REST]], *other_objects(), some_player(), CD, [REST]]
        for thing in things:
            with self.subTest(thing=thing):
                self.assertIs(machine == thing, False)
                self.assertIs(thing == machine, False)


class Does(Asked):

    def test_words(self):
        machine = pin("c", "x", "d")
        for word, move in (("", "c"), ("c", "c"), ("cx", "c"), ("cxd", "d"), ("cxdccc", "d"), ("x", "e"), ("cc", "e"),
                           ("cxx", "e"), ("ccxd", "e")):
            for letters in (list(word), tuple(word)):
                self.assertEqual(machine.does(letters), move)
                self.assertEqual(machine.does(word=letters), move)

    def test_no_letters(self):
        machine = pin("c", "x", "d")
        for wrong in no_moves_names() + other_objects() + ["e", "cc", "y"]:
            for at in (0, 1, 3):
                with self.subTest(wrong=wrong, at=at):
                    self.refused(NoLetter, {"at": at}, machine.does, ["c"] * at + [wrong])
                    self.refused(NoLetter, {"at": at}, machine.does, ("d",) * at + (wrong, "c", None))

    def test_no_list(self):
        for thing in [*no_lists(), *other_objects()]:
            with self.subTest(thing=thing):
                self.refused(NoLetter, {"at": 0}, pin("c").does, thing)

    def test_long_words(self):
        many = 400
        machine = Machine(CD, [("d" if at == many - 1 else "c", (min(at + 1, many - 1), at)) for at in range(many)])
        self.assertEqual(machine.does(["c"] * 398), "c")
        self.assertEqual(machine.does(["c"] * 399), "d")
        self.assertEqual(machine.does(["d"] * 3000 + ["c", "d"] * 399), "d")


class Least(Asked):

    def test_small_ones(self):
        for letters, rows, told in (
                (["c"], [("x", (0,))], [("x", (0,))]),
                (["c"], [("x", (1,)), ("x", (1,))], [("x", (0,))]),
                (["c"], [("x", (1,)), ("y", (1,))], [("x", (1,)), ("y", (1,))]),
                # Rows that are never come to.
                (["c"], [("x", (0,)), ("y", (0,))], [("x", (0,))]),
                (["c"], [("x", (2,)), ("z", (2,)), ("y", (2,))], [("x", (1,)), ("y", (1,))]),
                # A row that leads to one that does as it, and stays.
                (CD, [("x", (0, 1)), ("x", (1, 1))], [("x", (0, 0))]),
                (CD, [("x", (0, 1)), ("x", (1, 2)), ("y", (2, 2))], [("x", (0, 1)), ("x", (1, 2)), ("y", (2, 2))]),
                # Two that do alike, told by different rows.
                (CD, [("x", (1, 2)), ("y", (3, 3)), ("y", (4, 3)), ("z", (3, 3)), ("z", (4, 4))],
                 [("x", (1, 1)), ("y", (2, 2)), ("z", (2, 2))]),
                # Numbered as the words come, not as the rows.
                (CD, [("x", (3, 1)), ("y", (1, 1)), ("w", (2, 2)), ("z", (2, 3))],
                 [("x", (1, 2)), ("z", (3, 1)), ("y", (2, 2)), ("w", (3, 3))]),
                (["d", "c"], [("x", (1, 3)), ("y", (1, 1)), ("w", (2, 2)), ("z", (3, 2))],
                 [("x", (1, 2)), ("y", (1, 1)), ("z", (2, 3)), ("w", (3, 3))])):
            with self.subTest(rows=rows):
                least = Machine(letters, rows).least()
                self.assertIs(type(least), Machine)
                self.assertEqual(least, Machine(letters, told))
                self.assertEqual(repr(least.rows()), repr(tuple(told)))
                self.assertEqual(least.letters(), tuple(letters))
                self.assertEqual(least.least(), least)

    def test_chains(self):
        for moves, many in ((["c"] * 400, 1), (["c"] * 399 + ["d"], 400), (["c"] * 200 + ["d"] * 200, 201),
                            (["c", "d"] * 200, 400), (["c"] + ["d"] * 399, 2), (["c", "d", "e", "c"] * 50, 200)):
            machine = chain(moves)
            least = machine.least()
            self.assertEqual(len(least.rows()), many)
            for at in (0, 1, 100, 198, 199, 200, 201, 398, 399, 400, 500):
                self.assertEqual(least.does(["c"] * at), moves[min(at, len(moves) - 1)])
            self.assertEqual(least.least(), least)

    def test_many_letters_and_rows(self):
        many = 400
        rows = [("x" if at % 2 else "y", (min(at + 1, many - 1), at, min(at + 2, many - 1), min(at + 3, many - 1)))
                for at in range(many)]
        machine = Machine(["c", "d", "e", "f"], rows)
        self.assertEqual(len(machine.least().rows()), many)
        # Their first words: three rows further on by f, then what is over.
        self.assertEqual(machine.least().rows()[0][1], (1, 0, 2, 3))
        alike = Machine(["c", "d", "e", "f"], [("x", tos) for _, tos in rows])
        self.assertEqual(alike.least(), Machine(["c", "d", "e", "f"], [("x", (0,) * 4)]))

    def test_held_against_plain_ones(self):
        seed = random.Random(81)
        for _ in range(250):
            letters = seed.sample(["c", "d", "e", "f"], seed.randint(1, 4))
            rows = some_rows(seed, seed.randint(1, 14), letters, seed.choice([["x", "y"], ["x", "y", "z"]]),
                             seed.choice([None, 1, 2, 3]))
            machine, told = Machine(letters, rows), least_plainly(rows)
            least = machine.least()
            with self.subTest(letters=letters, rows=rows):
                self.assertEqual(least.rows(), tuple(told))
                self.assertEqual(least.letters(), tuple(letters))
                self.assertEqual(machine.rows(), tuple(rows))
                for word in plainly.words(letters, 3):
                    self.assertEqual(machine.does(word), rows[behind(letters, rows, word)][0])
                    self.assertEqual(least.does(word), machine.does(word))

    def test_asked_again(self):
        machine = pin("c", "d")
        first = machine.least()
        pin("d", "c").least()
        self.assertEqual(machine.least(), first)
        self.assertEqual(machine.does(["c", "d"]), "d")
        self.assertEqual(machine.does(["c", "d"]), "d")


class OfPlayers(Asked):

    def test_small_ones(self):
        for player, others, told in (
                (plain(CD, "c"), CD, [("c", (0, 0))]), (plain(CD, "d"), ["x"], [("d", (0,))]),
                (trusting(0), CD, [("c", (0, 1)), ("d", (1, 1))]),
                (trusting(0), ["d", "c"], [("c", (1, 0)), ("d", (1, 1))]),
                (trusting(0), ["c"], [("c", (0,))]),
                (trusting(0), ["x", "c", "y"], [("c", (1, 0, 1)), ("d", (1,) * 3)]),
                (trusting(2), CD, [("c", (1, 1)), ("c", (2, 2)), ("c", (2, 3)), ("d", (3, 3))]),
                (till(1), CD, [("c", (1, 1)), ("c", (2, 2)), ("d", (2, 2))]),
                (Player(["d"], [FALSE, ("shown", 9, 0)], []), CD, [("d", (0, 0))]),
                # Showns that change nothing of what it does.
                (Player(["c", "d"], [FALSE, ("shown", 5, 0), ("not", 1), ("and", 1, 2)], [3]), CD, [("d", (0, 0))]),
                (password("d", "c"), CD, [("c", (1, 2)), ("d", (1, 1)), ("c", (3, 1)), ("c", (3, 3))])):
            with self.subTest(rows=player.rows(), others=others):
                machine = machine_of(player, others)
                self.assertIs(type(machine), Machine)
                self.assertEqual(machine, Machine(others, told))
                self.assertEqual(machine_of(others=tuple(others), player=player), machine)
                self.assertEqual(machine.least(), machine)

    def test_late_showns(self):
        for k in (97, 98, 99):
            for player in (trusting(k), nots(k, 1200)):
                machine = machine_of(player, CD)
                self.assertEqual(len(machine.rows()), k + 2)
                self.assertEqual([machine.does(["d"] * at) for at in (0, 1, k, k + 1, 300)], list("cccdd"))
                self.assertEqual(machine.does(["d"] * k + ["c"] * 50), "c")
                self.assertEqual(machine.does(["c"] * (k + 5) + ["d"]), "d")
            self.assertEqual(machine_of(till(k), ["c"]), chain(["c"] * (k + 1) + ["d"]))
            self.assertEqual(len(machine_of(trusting(k), ["c"]).rows()), 1)

    def test_refused(self):
        for thing in no_players():
            with self.subTest(thing=thing):
                self.refused(NoPlayers, {}, machine_of, thing, CD)
                self.refused(NoPlayers, {}, machine_of, thing, None)
        for others in no_others():
            with self.subTest(others=others):
                self.refused(NoMoves, {}, machine_of, trusting(0), others)

    def test_others_stay(self):
        others = ["c", "d"]
        machine = machine_of(trusting(1), others)
        self.assertEqual(others, ["c", "d"])
        others[0] = "x"
        self.assertEqual(machine.letters(), ("c", "d"))
        endings(trusting(1), CD).clear()
        self.assertEqual(machine_of(trusting(1), CD), machine)

    def test_held_against_facing(self):
        seed = random.Random(82)
        for _ in range(120):
            moves = ("c", "d", "e", "f")[:seed.choice([1, 2, 2, 3, 4])]
            player = plainly.some_player(seed, seed.randrange(1, 22), seed.choice([0, 1, 2, 3]), moves)
            if len(player.showns()) > 6:
                continue
            others = seed.sample(["c", "d", "e", "x"], seed.choice([1, 2, 3, 4]))
            machine = machine_of(player, others)
            with self.subTest(rows=player.rows(), others=others):
                self.assertEqual(machine.letters(), tuple(others))
                self.assertEqual(tuple(least_plainly(machine.rows())), machine.rows())
                for word in plainly.words(others, 3) + [tuple(seed.choice(others) for _ in range(9)) for _ in range(5)]:
                    self.assertEqual(machine.does(word), Faced(player, word, "c").move_at(len(word)))
                    self.assertEqual(machine.does(word), plainly.facing(player, word, "c").move(0, len(word)))

    def test_held_against_facing_late(self):
        seed = random.Random(83)
        for _ in range(25):
            player = plainly.some_player(seed, seed.randrange(4, 12), 99, ("c", "d", "e"))
            others = seed.sample(["c", "d", "x"], 2)
            if len(player.showns()) > 3:
                continue
            machine = machine_of(player, others)
            for _ in range(6):
                word = tuple(seed.choice(others) for _ in range(seed.choice([5, 60, 110])))
                faced = Faced(player, word, "c")
                with self.subTest(rows=player.rows(), word=word):
                    self.assertEqual([machine.does(word[:at]) for at in range(len(word) + 1)],
                                     [faced.move_at(at) for at in range(len(word) + 1)])


if __name__ == "__main__":
    unittest.main()
