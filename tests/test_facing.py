"""[50], and [1], [3] and [4] of it: players that face letters, and opponents that do them."""

import random
import unittest
from itertools import product

from lookthrough.errors import NoLetter, NoLevel, NoMoves, NoPlayers, TooLong
from lookthrough.facing import Faced, opponent
from lookthrough.meetings import Meeting
from lookthrough.players import Player, plain
import plainly
from asking import Asked, no_levels, no_players, other_objects
from things import no_lists, no_moves_names

CD = ["c", "d"]
FALSE = ("false",)
CDE = ["c", "d", "e"]


def till(level):
    return Player(CD, [FALSE, ("shown", level, 0)], [1])


def trusting(k):
    return Player(CD, [FALSE, ("does", 1, "c"), ("shown", k, 1)], [2])


def counting(many):
    """Does c till the other one has done e at so many levels."""
    rows = [("does", 1, "e"), ("not", 0), ("shown", 0, 1)]
    for _ in range(many - 1):
        rows += [("or", len(rows) - 1, 1), ("shown", 0, len(rows))]
    return Player(CD, rows, [len(rows) - 1])


class Made(Asked):

    def test_letters_level_by_level(self):
        faced = Faced(trusting(2), ["d", "d", "c", "c", "d"], "c")
        self.assertEqual([faced.move_at(level) for level in range(8)], list("cccccddd"))
        self.assertEqual((faced.stays(), faced.last()), (5, "d"))
        self.assertIs(type(faced.last()), str)
        self.assertIs(type(faced.stays()), int)

    def test_no_letters(self):
        self.assertEqual((Faced(trusting(0), [], "c").stays(), Faced(trusting(0), [], "c").last()), (0, "c"))
        self.assertEqual((Faced(trusting(0), (), "d").stays(), Faced(trusting(0), (), "d").last()), (1, "d"))
        self.assertEqual((Faced(trusting(7), [], "d").stays(), Faced(trusting(7), [], "d").last()), (8, "d"))

    def test_many_letters(self):
        for many in (98, 99, 100, 101, 500, 3000):
            faced = Faced(trusting(3), ["c"] * many, "d")
            self.assertEqual((faced.stays(), faced.last()), (many + 1, "d"))
            self.assertEqual((faced.move_at(many), faced.move_at(many + 1), faced.move_at(10 ** 9)),
                             ("c", "d", "d"))
            faced = Faced(trusting(98), ["d"] * 98 + ["c"] * (many - 98), "c")
            self.assertEqual((faced.stays(), faced.last()), (0, "c"))

    def test_letters_that_it_knows_nothing_of(self):
        faced = Faced(trusting(0), ["zzzzzzzz", "x"], "c")
        self.assertEqual((faced.move_at(0), faced.move_at(1), faced.last()), ("c", "d", "d"))

    def test_does(self):
        # At the other seat is done what it faces, whatever it does; two and three further on there is no seat.
        for k, move, told in ((0, "d", "cccc"), (0, "c", "cddd"), (1, "x", "cddd"), (1, "y", "cccd"),
                              (1, "c", "cccc"), (2, "x", "cccc"), (2, "c", "cccc"), (2, "d", "cccc"),
                              (3, "x", "cccc"), (3, "y", "cccc"), (3, "c", "cccc")):
            player = Player(CD, [("does", k, move), ("not", 0), ("shown", 0, 1)], [2])
            faced = Faced(player, ["x", "x"], "y")
            with self.subTest(k=k, move=move):
                self.assertEqual("".join(faced.move_at(level) for level in range(4)), told)

    def test_rows_that_nothing_chosen_hangs_on(self):
        rows = [FALSE, ("shown", 1, 0), ("shown", 99, 0), ("does", 1, "c"), ("shown", 0, 3)]
        faced = Faced(Player(CD, rows, [1]), ["c"], "d")
        self.assertEqual((faced.stays(), faced.last()), (2, "d"))

    def test_it_counts(self):
        for many in (1, 2, 3, 5):
            player = counting(many)
            for letters, seen in ((["e"], 1), (["e"] * 9, 9), (["e", "c"] * 4, 4), (["c"] * 9, 0), ([], 0)):
                faced = Faced(player, letters, "c")
                self.assertEqual(faced.last(), "d" if seen >= many else "c")
            self.assertEqual(Faced(player, [], "e").stays(), many)

    def test_lists_that_are_changed_behind(self):
        letters = ["c", "c", "c"]
        faced = Faced(trusting(0), letters, "d")
        self.assertEqual(letters, ["c", "c", "c"])
        letters[0] = "d"
        letters.append("c")
        self.assertEqual([faced.move_at(level) for level in range(6)], list("ccccdd"))

    def test_lists_and_tuples(self):
        for letters in ([], ["c"], ["c", "d"], ["d"] * 9):
            one, two = Faced(trusting(1), letters, "c"), Faced(trusting(1), tuple(letters), "c")
            for level in range(12):
                self.assertEqual(one.move_at(level), two.move_at(level))

    def test_by_name(self):
        faced = Faced(tail="d", letters=["c"], player=trusting(0))
        self.assertEqual(faced.move_at(level=1), "c")
        self.assertEqual(faced.last(), "d")

    def test_long_chains(self):
        rows = [FALSE, ("does", 1, "c")] + [("shown", 0, at) for at in range(1, 1501)]
        faced = Faced(Player(CD, rows, [1501]), ["c"] * 20, "d")
        self.assertEqual((faced.stays(), faced.last()), (1520, "d"))
        self.assertEqual((faced.move_at(1519), faced.move_at(1520)), ("c", "d"))


class Refused(Asked):

    def test_no_player(self):
        for player in no_players():
            with self.subTest(player=player):
                self.refused(NoPlayers, {}, Faced, player, ["c"], "d")
                self.refused(NoPlayers, {}, Faced, player, None, None)
                self.refused(NoPlayers, {}, Faced, player=player, tail=0, letters=[0])

    def test_letters(self):
        for letters in [*no_lists(), *other_objects()]:
            with self.subTest(letters=letters):
                self.refused(NoLetter, {"at": 0}, Faced, till(1), letters, "d")
                self.refused(NoLetter, {"at": 0}, Faced, till(1), letters, None)
        for letter in no_moves_names() + other_objects():
            with self.subTest(letter=letter):
                self.refused(NoLetter, {"at": 0}, Faced, till(1), [letter], "d")
                self.refused(NoLetter, {"at": 2}, Faced, till(1), ["c", "zz", letter, "c", None], "d")
                self.refused(NoLetter, {"at": 120}, Faced, till(1), ("c",) * 120 + (letter,), None)

    def test_tails(self):
        for tail in no_moves_names() + other_objects():
            with self.subTest(tail=tail):
                for many in (0, 1, 3, 120):
                    self.refused(NoLetter, {"at": many}, Faced, till(1), ["c"] * many, tail)
                self.refused(NoLetter, {"at": 1}, Faced, till(1), ["c", None], tail)

    def test_levels(self):
        faced = Faced(till(3), ["c"], "d")
        for level in (0, 3, 4, 99, 10 ** 9):
            self.assertEqual(faced.move_at(level), "c" if level <= 3 else "d")
        for level in no_levels():
            with self.subTest(level=level):
                self.refused(NoLevel, {"level": level}, faced.move_at, level)
        self.assertEqual((faced.stays(), faced.last()), (4, "d"))


class Opponents(Asked):

    def sits(self, player, letters, tail):
        """It does these in meetings with all sorts of others, at each seat."""
        sorts = [[], [trusting(0)], [till(3), trusting(1)], [plain(CD, "d")] * 3, [player], [counting(2), player]]
        levels = [*range(min(len(letters), 8) + 2), *range(max(len(letters) - 2, 0), len(letters) + 3), 10 ** 9]
        for others in sorts:
            for seat in range(len(others) + 1):
                meeting = Meeting(others[:seat] + [player] + others[seat:])
                for level in levels:
                    told = letters[level] if level < len(letters) else tail
                    self.assertEqual(meeting.moves_at(level)[seat], told)
                self.assertEqual(meeting.last()[seat], tail)

    def test_short_letters(self):
        for many in (1, 2, 3):
            moves = CDE[:many]
            for length in (0, 1, 2, 3):
                for *letters, tail in product(moves, repeat=length + 1):
                    player = opponent(moves, letters, tail)
                    self.assertIs(type(player), Player)
                    self.assertEqual(player.moves(), tuple(moves))
                    told = [Meeting([player]).moves_at(level) for level in range(length + 2)]
                    self.assertEqual(told, [(move,) for move in letters + [tail, tail]])

    def test_at_each_seat(self):
        for letters, tail in (([], "d"), (["c"], "d"), (["d", "c", "e", "c"], "e"), (list("cdeedc") * 3, "c")):
            self.sits(opponent(CDE, letters, tail), letters, tail)
            self.sits(opponent(CDE[::-1], tuple(letters), tail), letters, tail)

    def test_ninety_nine_letters(self):
        seed = random.Random(99)
        for many in (50, 97, 98, 99):
            letters = [seed.choice("cdef") for _ in range(many)]
            for tail in "cdef":
                self.sits(opponent(["f", "c", "e", "d"], letters, tail), letters, tail)
        letters = ["c"] * 99
        self.sits(opponent(CD, letters, "d"), letters, "d")
        self.sits(opponent(CD, ["d"] * 98 + ["c"], "d"), ["d"] * 98 + ["c"], "d")

    def test_four_moves_and_one(self):
        self.sits(opponent(["a", "b", "c", "d"], list("abcddcba"), "b"), list("abcddcba"), "b")
        self.sits(opponent(["a"], ["a"] * 99, "a"), ["a"] * 99, "a")

    def test_it_looks_at_nobody(self):
        for letters, tail in (([], "d"), (["c", "d", "e"] * 33, "c")):
            rows = opponent(CDE, letters, tail).rows()
            self.assertNotIn("does", [row[0] for row in rows])

    def test_asked_again_it_is_the_same(self):
        player = opponent(CDE, ["c", "e"], "d")
        opponent(CDE, ["e", "c"], "d")
        self.assertEqual(opponent(tuple(CDE), ("c", "e"), "d"), player)
        self.assertEqual(opponent(letters=["c", "e"], tail="d", moves=CDE), player)

    def test_lists_that_are_changed_behind(self):
        moves, letters = ["c", "d"], ["c"]
        player = opponent(moves, letters, "d")
        self.assertEqual((moves, letters), (["c", "d"], ["c"]))
        moves[0], letters[0] = "x", "x"
        self.assertEqual(player, opponent(["c", "d"], ["c"], "d"))
        self.sits(player, ["c"], "d")

    def test_moves(self):
        for moves in [*no_lists(), [], ["c", "c"], ["c", "d", "e", "f", "g"], ["c", "D"], ["c", 1], [["c"]],
                      ["c", None], *other_objects()]:
            with self.subTest(moves=moves):
                self.refused(NoMoves, {}, opponent, moves, ["c"], "c")
                self.refused(NoMoves, {}, opponent, moves, None, None)
                self.refused(NoMoves, {}, opponent, moves, ["c"] * 100, "c")

    def test_letters(self):
        for letters in [*no_lists(), *other_objects()]:
            with self.subTest(letters=letters):
                self.refused(NoLetter, {"at": 0}, opponent, CD, letters, "c")
                self.refused(NoLetter, {"at": 0}, opponent, CD, letters, None)
        for letter in no_moves_names() + ["e", "cd", "dc", *other_objects()]:
            with self.subTest(letter=letter):
                self.refused(NoLetter, {"at": 0}, opponent, CD, [letter], "c")
                self.refused(NoLetter, {"at": 2}, opponent, CD, ["c", "d", letter, None], "c")
                self.refused(NoLetter, {"at": 2}, opponent, CD, ("c", "d", letter, "e"), "e")
                self.refused(NoLetter, {"at": 0}, opponent, CD, [], letter)
                self.refused(NoLetter, {"at": 3}, opponent, CD, ["c", "d", "c"], letter)

    def test_too_many_letters(self):
        for many in (100, 101, 1000):
            self.refused(TooLong, {"most": 99}, opponent, CD, ["c"] * many, "c")
            self.refused(TooLong, {"most": 99}, opponent, ("c",), ("c",) * many, "c")
            # A letter or a tail that is none goes ahead.
            self.refused(NoLetter, {"at": many}, opponent, CD, ["c"] * many, "e")
            self.refused(NoLetter, {"at": many}, opponent, CD, ["c"] * many, None)
            self.refused(NoLetter, {"at": many - 1}, opponent, CD, ["c"] * (many - 1) + ["e"], "c")
            self.refused(NoLetter, {"at": 0}, opponent, CD, ["e"] * many, "c")


class HeldAgainst(unittest.TestCase):

    def test_a_level_hangs_on_lower_ones_alone(self):
        # [1]: behind the same letters it does the same, whatever is done at that level and behind it.
        seed = random.Random(1)
        for _ in range(60):
            player = plainly.some_player(seed, seed.randrange(1, 25), seed.choice([0, 2, 5]), ("c", "d", "e"))
            letters = [seed.choice(CDE) for _ in range(6)]
            for many in range(7):
                told = {"".join(Faced(player, letters[:many], tail).move_at(level) for level in range(many + 1))
                        for tail in CDE}
                self.assertEqual(len(told), 1)

    def test_meetings_with_opponents(self):
        seed = random.Random(50)
        for _ in range(120):
            moves = ("c", "d", "e", "f")[:seed.choice([1, 2, 2, 3, 4])]
            player = plainly.some_player(seed, seed.randrange(1, 25), seed.choice([0, 2, 5, 99]), moves)
            letters = [seed.choice(CDE) for _ in range(seed.choice([0, 1, 2, 3, 8, 40, 99]))]
            tail = seed.choice(CDE)
            faced, meeting = Faced(player, letters, tail), Meeting([player, opponent(CDE, letters, tail)])
            with self.subTest(rows=player.rows(), letters=letters, tail=tail):
                told = [meeting.moves_at(level)[0] for level in range(plainly.far(player, letters) + 3)]
                self.assertEqual([faced.move_at(level) for level in range(len(told))], told)
                self.assertEqual(faced.last(), meeting.last()[0])
                self.assertEqual(faced.stays(), min(at for at in range(len(told)) if len(set(told[at:])) == 1))
                self.assertEqual(faced.move_at(10 ** 9), told[-1])

    def test_a_plain_going_through(self):
        seed = random.Random(51)
        for _ in range(120):
            player = plainly.some_player(seed, seed.randrange(1, 25), seed.choice([0, 2, 5, 99]), ("c", "d", "e"))
            letters = [seed.choice(["c", "d", "x"]) for _ in range(seed.choice([0, 1, 2, 5, 20, 130]))]
            faced, met = Faced(player, letters, "d"), plainly.facing(player, letters, "d")
            with self.subTest(rows=player.rows(), letters=letters):
                told = [met.move(0, level) for level in range(plainly.far(player, letters) + 3)]
                self.assertEqual([faced.move_at(level) for level in range(len(told))], told)
                self.assertEqual(faced.last(), told[-1])
                self.assertEqual(faced.stays(), min(at for at in range(len(told)) if len(set(told[at:])) == 1))


if __name__ == "__main__":
    unittest.main()
