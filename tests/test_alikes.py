"""[70], and [2](c), [3] and [4] of it: alike players, papers of that, and who parts the others."""

import random
import unittest

from lookthrough.alikes import alike, parter, shows_alike
from lookthrough.endings import begin, led, move_by
from lookthrough.errors import NoMoves, NoPlayers, TooLong
from lookthrough.facing import Faced
from lookthrough.meetings import Meeting
from lookthrough.players import Player, plain
import plainly
from asking import Asked, no_others, no_players, other_objects
from folk import CD, F, FALSE, T, no_stands, nots, password, till, trusting
from things import nested, no_lists


def turned_moves():
    """Trusting from level 0 on, but its moves stand the other way about."""
    return Player(["d", "c"], [("does", 1, "c"), ("shown", 0, 0), ("not", 1)], [2])


def doubtful():
    """Trusting from level 0 on, but by what isn't d; told by two showns, one of them twice over."""
    rows = [("does", 1, "c"), ("shown", 0, 0), ("shown", 2, 1), ("and", 1, 2)]
    return Player(CD, rows, [3])


def pairs_of(one, other, others, pair=None):
    """The pairs of stands to which both are led by the same letters from one on, by led alone."""
    found = [pair or (begin(one), begin(other))]
    for mine, yours in found:
        for letter in others:
            to = (led(one, mine, letter), led(other, yours, letter))
            if to not in found:
                found.append(to)
    return found


class Alike(Asked):

    def test_equal_ones(self):
        for player, others, told in (
                (plain(CD, "c"), CD, (((0, ()), (0, ())),)),
                (trusting(0), CD, (((0, (F,)), (0, (F,))), ((0, (T,)), (0, (T,))))),
                (trusting(0), ["c"], (((0, (T,)), (0, (T,))),)),
                (trusting(0), ["d"], (((0, (F,)), (0, (F,))), ((0, (T,)), (0, (T,))))),
                (till(1), ["x"], (((0, (T,)), (0, (T,))), ((1, (F,)), (1, (F,))), ((1, (T,)), (1, (T,)))))):
            with self.subTest(rows=player.rows(), others=others):
                answer = alike(player, player, others)
                self.assertEqual(answer, ("alike", told))
                self.assertEqual(repr(answer), repr(("alike", told)))
                self.assertEqual(alike(others=tuple(others), other=player, one=player), answer)

    def test_told_otherwise(self):
        first, second = ((0, (F,)), (0, (T,))), ((0, (T,)), (0, (T,)))
        self.assertEqual(alike(trusting(0), turned_moves(), CD),
                         ("alike", (((0, (F,)), (0, (F,))), ((0, (T,)), (0, (T,))))))
        self.assertEqual(alike(trusting(0), nots(0, 8), CD)[0], "alike")
        self.assertEqual(alike(trusting(0), doubtful(), CD),
                         ("alike", (((0, (F,)), (1, (F, T))), ((0, (F,)), (2, (F, F))), ((0, (F,)), (2, (F, T))),
                                    ((0, (T,)), (0, (T, T))), ((0, (T,)), (1, (T, T))), ((0, (T,)), (2, (T, T))))))
        self.assertEqual(alike(till(0), Player(CD, [FALSE, ("shown", 0, 0), ("shown", 0, 1), ("and", 1, 2)], [3]),
                               ["c"])[0], "alike")
        # Facing nothing but c, the trusting one does as the plain one.
        self.assertEqual(alike(plain(CD, "c"), trusting(0), ["c"]), ("alike", (((0, ()), (0, (T,))),)))
        self.assertNotIn(first, alike(trusting(0), trusting(0), CD)[1])
        self.assertIn(second, alike(trusting(0), trusting(0), CD)[1])

    def test_more_moves_than_are_done(self):
        wide = Player(["x", "c", "y", "d"], [FALSE, ("does", 1, "c"), ("shown", 0, 1)], [0, 2, 0])
        self.assertEqual(alike(trusting(0), wide, CD)[0], "alike")
        self.assertEqual(alike(wide, trusting(0), CD)[0], "alike")

    def test_unlike(self):
        for one, other, others, letters in (
                (plain(CD, "c"), plain(CD, "d"), CD, ()),
                (plain(["x", "y"], "x"), plain(CD, "c"), CD, ()),
                (plain(["x", "y"], "x"), trusting(0), ["d"], ()),
                (plain(CD, "c"), trusting(0), CD, ("d",)), (plain(CD, "c"), trusting(0), ["d", "c"], ("d",)),
                (plain(CD, "c"), trusting(0), ["x", "d"], ("x",)), (plain(CD, "c"), trusting(0), ["d", "x"], ("d",)),
                (plain(CD, "c"), trusting(3), CD, ("c", "c", "c", "d")),
                (plain(CD, "c"), trusting(3), ["d", "c"], ("d", "d", "d", "d")),
                (plain(CD, "c"), trusting(3), ["c", "x", "d"], ("c", "c", "c", "x")),
                (trusting(1), trusting(2), CD, ("c", "d")), (trusting(2), trusting(1), CD, ("c", "d")),
                (till(4), till(6), ["c", "d"], ("c",) * 5), (till(6), till(4), ["d", "c"], ("d",) * 5),
                (password("d", "c", "d"), plain(CD, "c"), CD, ("c",)),
                (password("d", "c", "d"), plain(CD, "c"), ["d", "c"], ("c",)),
                (password("d", "c", "d"), plain(CD, "c"), ["d"], ("d", "d")),
                (password("d", "c", "d"), password("d", "c", "c"), CD, ("d", "c", "c")),
                (password("d", "c", "d"), password("d", "c", "c"), ["d", "c"], ("d", "c", "d"))):
            with self.subTest(one=one.rows(), other=other.rows(), others=others):
                self.assertEqual(alike(one, other, others), ("unlike", letters))
                self.assertEqual(alike(other, one, others), ("unlike", letters))

    def test_one_row_or_one_move(self):
        rows = [("does", 1, "c"), ("shown", 2, 0), ("not", 1)]
        base = Player(["c", "d", "e"], rows, [1, 2])
        for moves, other, letters in ((["c", "e", "d"], rows, ("c", "c", "d")), (["e", "d", "c"], rows, ()),
                                      (["c", "d", "e"], [("does", 1, "d"), *rows[1:]], ("c", "c", "c")),
                                      (["c", "d", "e"], [rows[0], ("shown", 1, 0), rows[2]], ("c", "d")),
                                      (["c", "d", "e"], [*rows[:2], ("false",)], ("c", "c", "d"))):
            with self.subTest(moves=moves, rows=other):
                self.assertEqual(alike(base, Player(moves, other, [1, 2]), CD), ("unlike", letters))
        self.assertEqual(alike(base, Player(["c", "d", "e"], [*rows, ("and", 1, 1)], [3, 2]), CD)[0], "alike")

    def test_behind_many_letters(self):
        for k in (98, 99):
            self.assertEqual(alike(trusting(k), plain(CD, "c"), CD), ("unlike", ("c",) * k + ("d",)))
            self.assertEqual(alike(till(k), plain(CD, "c"), CD), ("unlike", ("c",) * (k + 1)))
            kind, pairs = alike(trusting(k), nots(k, 1000), ["d", "c"])
            self.assertEqual(kind, "alike")
            self.assertEqual(len(pairs), k + 2)
        long = ["c"] * 60 + ["d"]
        self.assertEqual(alike(password(*long), password(*long[:-1]), CD), ("unlike", tuple(long[:-1]) + ("c",)))

    def test_the_other_way_about(self):
        for one, other in ((trusting(0), doubtful()), (doubtful(), nots(0, 2)), (trusting(0), turned_moves())):
            kind, pairs = alike(one, other, CD)
            self.assertEqual(kind, "alike")
            self.assertEqual(alike(other, one, CD), ("alike", tuple(sorted((b, a) for a, b in pairs))))

    def test_the_pairs_rise(self):
        for one, other in ((trusting(3), nots(3, 2)), (trusting(0), doubtful()), (till(5), till(5))):
            for others in (CD, ["d", "c"], ["x"]):
                kind, pairs = alike(one, other, others)
                with self.subTest(rows=other.rows(), others=others):
                    self.assertEqual(kind, "alike")
                    self.assertEqual(pairs, tuple(sorted(pairs_of(one, other, others))))

    def test_asked_again(self):
        others = ["c", "d"]
        first, second = alike(trusting(0), doubtful(), others), alike(trusting(1), trusting(2), others)
        self.assertEqual(others, ["c", "d"])
        alike(doubtful(), trusting(0), ["d", "c"])
        parter(trusting(1), trusting(2), others)
        shows_alike(trusting(0), doubtful(), others, first[1])
        others[0] = "x"
        self.assertEqual(alike(trusting(0), doubtful(), CD), first)
        self.assertEqual(alike(trusting(1), trusting(2), CD), second)
        told = trusting(2).showns()
        told.append(7)
        self.assertEqual(alike(trusting(1), trusting(2), CD), second)

    def test_far_apart_ones_are_told_at_once(self):
        # Behind no letter at all: how many stands there would be means nothing.
        rows = [("does", 1, letter) for letter in "cdef"]
        rows += [("shown", k, i) for k in (0, 3, 5, 7, 9, 20) for i in range(4)]
        one = Player(CD, rows + [("not", len(rows) - 1)], [len(rows)])
        for part in range(4, len(rows)):
            rows.append(("or" if part > 4 else "and", len(rows) - 1, part))
        other = Player(["c", "d"], rows, [len(rows) - 1])
        self.assertEqual(alike(one, other, ["c", "d", "e", "f"])[1], ())


class Refused(Asked):

    def both(self, asked, *behind):
        for thing in no_players():
            with self.subTest(thing=thing):
                self.refused(NoPlayers, {}, asked, thing, trusting(0), CD, *behind)
                self.refused(NoPlayers, {}, asked, trusting(0), thing, CD, *behind)
                self.refused(NoPlayers, {}, asked, thing, thing, None, *behind)
                self.refused(NoPlayers, {}, asked, trusting(0), thing, None, *behind)
        for others in no_others():
            with self.subTest(others=others):
                self.refused(NoMoves, {}, asked, trusting(0), trusting(0), others, *behind)
                self.refused(NoMoves, {}, asked, plain(CD, "c"), plain(CD, "d"), others, *behind)

    def test_alike(self):
        self.both(alike)

    def test_shows_alike(self):
        for pairs in (alike(trusting(0), trusting(0), CD)[1], None, (), [None], "c"):
            self.both(shows_alike, pairs)

    def test_parter(self):
        self.both(parter)
        for others in (["c"], ("d",), ["x"]):
            self.refused(NoMoves, {}, parter, plain(CD, "c"), plain(CD, "d"), others)
            self.refused(NoMoves, {}, parter, plain(CD, "c"), plain(CD, "c"), others)
            self.refused(NoMoves, {}, parter, till(98), plain(CD, "c"), others)
            self.refused(NoPlayers, {}, parter, till(98), None, others)


class ShowsAlike(Asked):

    def setUp(self):
        self.one, self.other = trusting(0), doubtful()
        self.pairs = alike(self.one, self.other, CD)[1]

    def shows(self, pairs, others=("c", "d")):
        return shows_alike(self.one, self.other, others, pairs)

    def test_the_told_pairs(self):
        self.assertIs(self.shows(self.pairs), True)
        self.assertIs(shows_alike(pairs=self.pairs, others=CD, other=self.other, one=self.one), True)
        self.assertIs(shows_alike(self.other, self.one, CD, tuple((b, a) for a, b in self.pairs)), True)

    def test_in_any_order_and_twice(self):
        for pairs in (self.pairs[::-1], self.pairs[3:] + self.pairs[:3], self.pairs * 2, self.pairs[2:3] + self.pairs):
            self.assertIs(self.shows(pairs), True)

    def test_one_left_out(self):
        for at in range(len(self.pairs)):
            self.assertIs(self.shows(self.pairs[:at] + self.pairs[at + 1:]), False)
        self.assertIs(self.shows(()), False)

    def test_more_of_the_forms(self):
        more = ((0, (F,)), (0, (F, T)))
        behind = (((0, (F,)), (1, (F, T))),)
        self.assertIn(behind[0], self.pairs)
        self.assertIs(self.shows(self.pairs + (more,)), True)
        self.assertIs(self.shows((more,) + self.pairs), True)
        # (0, (F, F)) leads to (1, (F, F)), and this one to (2, (F, F)), which is among them.
        first, second = ((0, (F,)), (0, (F, F))), ((0, (F,)), (1, (F, F)))
        self.assertIs(self.shows(self.pairs + (first,)), False)
        self.assertIs(self.shows(self.pairs + (first, second)), True)
        self.assertIs(self.shows(self.pairs + (second,)), True)

    def test_one_that_does_unlike(self):
        # Never come to, but of the forms: the one does c, the other one d.
        for pair in (((0, (T,)), (2, (F, T))), ((0, (T,)), (2, (T, F))), ((0, (F,)), (2, (T, T)))):
            more = tuple(pairs_of(self.one, self.other, CD, pair))
            self.assertIs(self.shows(self.pairs + more), False)

    def test_of_unlike_ones(self):
        self.one = trusting(1)
        self.assertIs(self.shows(tuple(pairs_of(self.one, self.other, CD))), False)
        self.assertIs(shows_alike(plain(CD, "c"), plain(CD, "d"), CD, (((0, ()), (0, ())),)), False)
        self.assertIs(shows_alike(plain(CD, "c"), plain(CD, "c"), CD, (((0, ()), (0, ())),)), True)

    def test_letters_of_others_alone(self):
        pairs = alike(self.one, self.other, ["c"])[1]
        self.assertIs(self.shows(pairs, ["c"]), True)
        self.assertIs(self.shows(pairs, ["c", "d"]), False)
        self.assertIs(self.shows(self.pairs, ["c"]), True)
        self.assertIs(self.shows(self.pairs, ["x", "c", "y"]), True)

    def test_one_not_of_the_form(self):
        mine, yours = self.pairs[-1]
        wrong = [(stand, yours) for stand in no_stands(self.one)] + [(mine, stand) for stand in no_stands(self.other)]
        wrong += [(yours, mine), [mine, yours], (mine,), (mine, yours, yours), mine, (self.pairs[-1],), None, True, 0,
                  {mine: yours}, (self.one, self.other), "c", (), ((mine, yours), yours)]
        for thing in wrong:
            with self.subTest(thing=thing):
                self.assertIs(self.shows(self.pairs + (thing,)), False)
                self.assertIs(self.shows((thing,) + self.pairs), False)
                self.assertIs(self.shows((thing,)), False)

    def test_numbers_for_truths(self):
        for at, ((n, held), (k, shown)) in enumerate(self.pairs):
            for pair in (((n, tuple(int(truth) for truth in held)), (k, shown)),
                         ((n, held), (k, tuple(int(truth) for truth in shown)))):
                self.assertEqual(pair, self.pairs[at])
                self.assertIs(self.shows(self.pairs[:at] + (pair,) + self.pairs[at + 1:]), False)
                self.assertIs(self.shows(self.pairs + (pair,)), False)
            if k < 2:
                self.assertIs(self.shows(self.pairs + (((n, held), (bool(k), shown)),)), False)

    def test_of_anything(self):
        for thing in [*no_lists(), [], list(self.pairs), dict.fromkeys(self.pairs), (self.pairs,), *other_objects(),
                      nested(30, lambda thing: (thing,)), nested(30, lambda thing: [thing]), ((),), ((), ())]:
            with self.subTest(thing=thing):
                self.assertIs(self.shows(thing), False)


class Parter(Asked):

    def parted(self, one, other, others):
        met = parter(one, other, others)
        self.assertIsInstance(met, Player)
        self.assertEqual(met.moves(), tuple(others))
        # Whichever it meets first.
        self.assertNotEqual(Meeting([one, met]).last()[1], Meeting([other, met]).last()[1])
        turned = parter(other, one, others)
        self.assertEqual(turned.moves(), tuple(others))
        self.assertNotEqual(Meeting([one, turned]).last()[1], Meeting([other, turned]).last()[1])
        self.assertEqual(parter(one=one, other=other, others=tuple(others)), met)
        return met

    def test_none_of_alike_ones(self):
        for one, other in ((trusting(0), trusting(0)), (trusting(0), doubtful()), (turned_moves(), nots(0, 4)),
                           (trusting(99), nots(99, 2)), (plain(CD, "c"), plain(["x", "c"], "c"))):
            for others in (CD, ["d", "c"], ["x", "y", "c", "d"]):
                self.assertIsNone(parter(one, other, others))

    def test_unlike_ones(self):
        for one, other in ((plain(CD, "c"), plain(CD, "d")), (plain(["x", "y"], "x"), plain(CD, "c")),
                           (plain(["x", "y"], "x"), trusting(0)), (plain(CD, "c"), trusting(0)),
                           (trusting(1), trusting(2)), (till(3), till(5)), (trusting(7), plain(CD, "c")),
                           (password("d", "c", "d"), password("d", "c", "c")),
                           (password("d", "c", "d"), plain(CD, "c"))):
            for others in (CD, ["d", "c"], ["d", "x", "c"], ["x", "c", "y", "d"]):
                with self.subTest(one=one.rows(), other=other.rows(), others=others):
                    self.parted(one, other, others)

    def test_moves_that_nobody_looks_at(self):
        self.parted(till(2), till(4), ["x", "y"])
        self.parted(plain(CD, "c"), plain(CD, "d"), ["x", "y", "z"])
        self.parted(plain(CD, "c"), trusting(0), ["x", "y"])

    def test_it_does_the_letters_first(self):
        met = parter(password("d", "c", "d"), password("d", "c", "c"), CD)
        for one in (password("d", "c", "d"), password("d", "c", "c"), plain(CD, "d")):
            self.assertEqual([Meeting([one, met]).moves_at(level)[1] for level in range(3)], ["d", "c", "c"])

    def test_many_letters(self):
        for k in (96, 97, 98, 99):
            self.parted(trusting(k), plain(CD, "d"), CD)
        for one in (trusting(98), till(98)):
            met = self.parted(one, plain(CD, "c"), CD)
            self.assertEqual(len(alike(one, plain(CD, "c"), CD)[1]), 99)
            self.assertLessEqual(len(met.rows()), 2000)
            self.parted(one, nots(99, 4), ["d", "c"])
            self.parted(one, plain(CD, "c"), ["x", "c", "d"])

    def test_too_long(self):
        for one, other, many in ((trusting(99), plain(CD, "c"), 100), (till(99), plain(CD, "c"), 100),
                                 (late(100), late(101), 101)):
            for others in (CD, ["d", "c"], ["x", "d"]):
                with self.subTest(one=one.rows(), others=others):
                    self.assertEqual(len(alike(one, other, others)[1]), many)
                    self.refused(TooLong, {"most": 99}, parter, one, other, others)
                    self.refused(TooLong, {"most": 99}, parter, other, one, others)


def late(level):
    """Does c till a level behind 99, counted by showns that fall one behind another."""
    rows = [FALSE, ("shown", 99, 0)]
    for _ in range(level - 99):
        rows.append(("shown", 0, len(rows) - 1))
    return Player(CD, rows, [len(rows) - 1])


class HeldAgainstAPlainOne(unittest.TestCase):

    def some(self, many, seed):
        """Pairs of players that come to few stands, near one another, with others' moves."""
        while many:
            moves = ("c", "d", "e", "f")[:seed.choice([1, 2, 2, 3])]
            one = plainly.some_player(seed, seed.randrange(2, 20), seed.choice([0, 1, 2, 3]), moves)
            rows = list(one.rows())
            at = seed.randrange(len(rows))
            if rows[at][0] == "shown":
                rows[at] = ("shown", seed.randrange(4), rows[at][2])
            elif rows[at][0] == "does":
                rows[at] = ("does", rows[at][1], seed.choice("cdex"))
            else:
                rows += [("not", one.chosen()[0] if one.chosen() else 0)]
            other = Player(moves, rows, list(one.chosen()))
            if seed.randrange(3) == 0:
                other = plainly.some_player(seed, seed.randrange(2, 12), seed.choice([0, 1, 3]), moves)
            if len(one.showns()) + len(other.showns()) <= 10:
                many -= 1
                yield one, other, seed.sample(["c", "d", "e", "x"], seed.choice([1, 2, 2, 3]))

    def plain_answer(self, one, other, others):
        found, fresh = {}, [()]
        while fresh:
            behind = []
            for letters in fresh:
                pair = (plainly.stand_of(one, letters), plainly.stand_of(other, letters))
                if pair in found:
                    continue
                found[pair] = letters
                moves = [plainly.facing(player, letters, None).move(0, len(letters)) for player in (one, other)]
                if moves[0] != moves[1]:
                    return ("unlike", letters)
                behind.extend(letters + (letter,) for letter in others)
            fresh = behind
        return ("alike", tuple(sorted(found)))

    def test_alike(self):
        kinds = []
        for one, other, others in self.some(250, random.Random(70)):
            told = self.plain_answer(one, other, others)
            kinds.append(told[0])
            with self.subTest(one=one.rows(), other=other.rows(), others=others):
                self.assertEqual(alike(one, other, others), told)
                if told[0] == "alike":
                    self.assertIs(shows_alike(one, other, others, told[1]), True)
                else:
                    stands = tuple(pairs_of(one, other, others))
                    self.assertIs(shows_alike(one, other, others, stands), False)
        self.assertGreater(kinds.count("alike"), 20)
        self.assertGreater(kinds.count("unlike"), 20)

    def test_opponents(self):
        # [2](c): alike ones do alike in all meetings of two with whoever does these letters; else one parts them.
        seed = random.Random(71)
        for one, other, others in self.some(120, seed):
            if len(others) < 2:
                continue
            kind, letters = alike(one, other, others)
            met = parter(one, other, others)
            with self.subTest(one=one.rows(), other=other.rows(), others=others):
                if kind == "alike":
                    self.assertIsNone(met)
                    for _ in range(4):
                        other_one = plainly.some_player(seed, seed.randrange(1, 20), 3, tuple(others))
                        lines = [[Meeting([player, other_one]).moves_at(level) for level in range(12)]
                                 for player in (one, other)]
                        self.assertEqual(lines[0], lines[1])
                else:
                    self.assertNotEqual(Faced(one, letters, "c").move_at(len(letters)),
                                        Faced(other, letters, "c").move_at(len(letters)))
                    self.assertEqual(met.moves(), tuple(others))
                    self.assertNotEqual(Meeting([one, met]).last()[1], Meeting([other, met]).last()[1])

    def test_stands_move_by(self):
        for one, other, others in self.some(40, random.Random(72)):
            kind, told = alike(one, other, others)
            if kind == "alike":
                self.assertTrue(all(move_by(one, a) == move_by(other, b) for a, b in told))


if __name__ == "__main__":
    unittest.main()
