"""[10], and [3] and [4] of it: moves, rows, and what rows hang on."""

import copy
import unittest

from lookthrough.errors import NoRow, SightError
from lookthrough.rows import hangs_on, is_move, looks_down, need_rows, showns
from things import nested, no_lists, no_moves_names, no_numbers, some_player

# 0 false; 1 does; 2 shown of 1; 3 not 1; 4 and 0 2; 5 or 1 2; 6 shown of 5; 7 not 4
MIXED = [("false",), ("does", 1, "c"), ("shown", 1, 1), ("not", 1), ("and", 0, 2),
         ("or", 1, 2), ("shown", 4, 5), ("not", 4)]


class Asked(unittest.TestCase):

    def refused(self, at, asked, *things, **named):
        with self.assertRaises(SightError) as caught:
            asked(*things, **named)
        self.assertIs(type(caught.exception), NoRow)
        self.assertIsInstance(caught.exception, ValueError)
        self.assertIs(type(caught.exception.at), int)
        self.assertEqual(caught.exception.at, at)


class Moves(Asked):

    def test_names_of_1_to_8_small_letters(self):
        for name in ("c", "d", "a", "z", "no", "abcdefgh", "zzzzzzzz", "false", "moves"):
            self.assertIs(is_move(name), True)

    def test_anything_else(self):
        for thing in no_moves_names():
            with self.subTest(thing=thing):
                self.assertIs(is_move(thing), False)

    def test_by_name(self):
        self.assertIs(is_move(thing="c"), True)


class NeedRows(Asked):

    def test_each_kind(self):
        self.assertIsNone(need_rows(MIXED))

    def test_a_tuple_of_rows(self):
        self.assertIsNone(need_rows(tuple(MIXED)))
        self.assertIsNone(need_rows(()))

    def test_none(self):
        self.assertIsNone(need_rows([]))

    def test_by_name(self):
        self.assertIsNone(need_rows(rows=MIXED))
        self.refused(0, need_rows, rows=[()])

    def test_no_list(self):
        for thing in no_lists():
            with self.subTest(thing=thing):
                self.refused(0, need_rows, thing)

    def test_what_is_no_row(self):
        bad = [None, True, 0, 7, "false", "", [], (), {}, ["false"], ["not", 0], ["shown", 0, 0],
               (None,), (0,), (True,), ("",), ("False",), ("true",), ("does",), ("c",), ("falsey",),
               ([],), ({},), ((),), (("false",),), (some_player(),), some_player(),
               nested(30, lambda thing: (thing,)), nested(30, lambda thing: [thing])]
        for thing in bad:
            with self.subTest(thing=thing):
                self.refused(0, need_rows, [thing])
                self.refused(1, need_rows, [("false",), thing])
                self.refused(1, need_rows, (("false",), thing, None))

    def test_too_short_and_too_long(self):
        for row in MIXED:
            for wrong in (row + (0,), row + ("c",), row[:-1], row + row[1:] + (0,)):
                with self.subTest(row=row, wrong=wrong):
                    self.refused(7, need_rows, [("false",)] * 7 + [wrong])

    def test_does(self):
        for k in (0, 1, 2, 3):
            for move in ("c", "abcdefgh"):
                self.assertIsNone(need_rows([("does", k, move)]))
        for k in [-1, 4, 5, 99, 10 ** 39, -10 ** 39] + no_numbers():
            with self.subTest(k=k):
                self.refused(0, need_rows, [("does", k, "c")])
        for move in no_moves_names():
            with self.subTest(move=move):
                self.refused(0, need_rows, [("does", 0, move)])
        self.refused(0, need_rows, [("does", "c", 0)])

    def test_shown_k(self):
        for k in (0, 1, 4, 50, 98, 99):
            self.assertIsNone(need_rows([("false",), ("shown", k, 0)]))
        for k in [-1, 100, 101, 10 ** 39] + no_numbers():
            with self.subTest(k=k):
                self.refused(1, need_rows, [("false",), ("shown", k, 0)])

    def test_rows_are_named_ahead_alone(self):
        ahead = [("false",)] * 5
        behind = [("false",)] * 5
        for i in (0, 3, 4):
            for row in (("not", i), ("and", i, 4), ("and", 4, i), ("or", i, 0), ("or", 0, i),
                        ("shown", 9, i)):
                self.assertIsNone(need_rows(ahead + [row] + behind))
        for i in [5, 6, 10, 11, 2000, -1, -6, 10 ** 39] + no_numbers():
            for row in (("not", i), ("and", i, 4), ("and", 4, i), ("or", i, 4), ("or", 4, i),
                        ("shown", 9, i)):
                with self.subTest(row=row):
                    self.refused(5, need_rows, ahead + [row] + behind)

    def test_row_0_has_none_ahead(self):
        for row in (("not", 0), ("and", 0, 0), ("or", 0, 0), ("shown", 0, 0)):
            self.refused(0, need_rows, [row])

    def test_how_many(self):
        self.assertIsNone(need_rows([("false",)] * 2000))
        self.assertIsNone(need_rows([("false",)] * 1999 + [("not", 1998)]))
        self.refused(2000, need_rows, [("false",)] * 2001)
        self.refused(2000, need_rows, (("false",),) * 4000)

    def test_which_number_of_too_many(self):
        many = [("false",)] * 2001
        self.refused(2000, need_rows, many[:2000] + [None])
        self.refused(1999, need_rows, many[:1999] + [None] + many)
        self.refused(0, need_rows, [None] + many)

    def test_the_first_is_told(self):
        self.refused(1, need_rows, [("false",), ("not", 1), None, ("not", 9)])
        self.refused(2, need_rows, [("false",), ("not", 0), ("not", True), ("not", 0), ()])

    def test_nothing_is_changed(self):
        rows = copy.deepcopy(MIXED)
        need_rows(rows)
        self.assertEqual(rows, MIXED)


class OfRows(Asked):
    """What looks_down, hangs_on and showns share."""

    def test_rows_are_refused_first(self):
        for asked in (looks_down, hangs_on, showns):
            for last in (0, [0], None, [None], -1, "x", 5, [5], True):
                with self.subTest(asked=asked, last=last):
                    for thing in no_lists():
                        self.refused(0, asked, thing, last)
                    self.refused(1, asked, [("false",), ("not", 1), ("not", 5)], last)
                    self.refused(2000, asked, [("false",)] * 2001, last)

    def test_nothing_is_changed(self):
        rows, some = copy.deepcopy(MIXED), [7, 2, 7]
        looks_down(rows, 5)
        hangs_on(rows, some)
        showns(rows, some)
        self.assertEqual((rows, some), (MIXED, [7, 2, 7]))

    def test_by_name(self):
        self.assertIs(looks_down(at=2, rows=MIXED), True)
        self.assertEqual(hangs_on(some=[3], rows=MIXED), [1, 3])
        self.assertEqual(showns(some=[4], rows=MIXED), [2])


class LooksDown(Asked):

    def test_each_kind(self):
        down = [True, False, True, False, True, False, True, True]
        for at, told in enumerate(down):
            self.assertIs(looks_down(MIXED, at), told)
            self.assertIs(looks_down(tuple(MIXED), at), told)

    def test_one_of_two(self):
        rows = [("false",), ("does", 0, "c")]
        for word in ("and", "or"):
            for i, j in ((0, 0), (0, 1), (1, 0), (1, 1)):
                with self.subTest(word=word, i=i, j=j):
                    self.assertIs(looks_down(rows + [(word, i, j)], 2), i == j == 0)

    def test_long_chains(self):
        for first, told in ((("false",), True), (("does", 0, "c"), False)):
            for word in ("not", "and", "or"):
                rows = [first] + [(word,) + (at,) * (1 if word == "not" else 2) for at in range(1999)]
                with self.subTest(first=first, word=word):
                    self.assertIs(looks_down(rows, 1999), told)
                    self.assertIs(looks_down(rows, 1), told)
                    self.assertIs(looks_down(rows, 0), told)

    def test_a_shown_ends_a_chain(self):
        rows = [("does", 0, "c")] + [("not", at) for at in range(999)] + [("shown", 0, 999)]
        rows += [("not", at) for at in range(1000, 1999)]
        self.assertIs(looks_down(rows, 999), False)
        self.assertIs(looks_down(rows, 1000), True)
        self.assertIs(looks_down(rows, 1999), True)

    def test_no_number_of_a_row(self):
        for at in (8, 9, 2000, -1, -8, -9, 10 ** 39, -10 ** 39):
            with self.subTest(at=at):
                self.refused(at, looks_down, MIXED, at)
        self.refused(0, looks_down, [], 0)

    def test_no_number(self):
        for at in no_numbers():
            with self.subTest(at=at):
                self.refused(0, looks_down, MIXED, at)


class HangsOn(Asked):

    def test_each_kind(self):
        told = [[0], [1], [1, 2], [1, 3], [0, 1, 2, 4], [1, 2, 5], [1, 2, 5, 6], [0, 1, 2, 4, 7]]
        for at, rising in enumerate(told):
            with self.subTest(at=at):
                self.assertEqual(hangs_on(MIXED, [at]), rising)
                self.assertIs(type(hangs_on(MIXED, [at])), list)

    def test_numbers_of_does_and_shown_name_no_rows(self):
        rows = [("false",), ("false",), ("false",), ("does", 1, "c"), ("shown", 2, 0)]
        self.assertEqual(hangs_on(rows, [3]), [3])
        self.assertEqual(hangs_on(rows, [4]), [0, 4])

    def test_none_twice_unordered(self):
        self.assertEqual(hangs_on(MIXED, []), [])
        self.assertEqual(hangs_on([], []), [])
        self.assertEqual(hangs_on(MIXED, [3, 3, 3]), [1, 3])
        self.assertEqual(hangs_on(MIXED, [6, 0, 3]), [0, 1, 2, 3, 5, 6])
        self.assertEqual(hangs_on(tuple(MIXED), (4, 3, 4)), [0, 1, 2, 3, 4])

    def test_long_chains(self):
        rows = [("false",)] + [("and", at, at) for at in range(1999)]
        self.assertEqual(hangs_on(rows, [1999]), list(range(2000)))
        self.assertEqual(hangs_on(rows, [0]), [0])
        self.assertEqual(hangs_on(rows, [1000, 3]), list(range(1001)))
        rows = [("false",)] + [("shown", 99, at) for at in range(1999)]
        self.assertEqual(hangs_on(rows, [1999]), list(range(2000)))

    def test_the_list_is_the_askers_own(self):
        some = [1, 2]
        told = hangs_on(MIXED, some)
        told.append(99)
        self.assertEqual(some, [1, 2])
        self.assertEqual(hangs_on(MIXED, some), [1, 2])


class Showns(Asked):

    def test_each_kind(self):
        told = [[], [], [2], [], [2], [2], [2, 6], [2]]
        for at, rising in enumerate(told):
            with self.subTest(at=at):
                self.assertEqual(showns(MIXED, [at]), rising)
                self.assertIs(type(showns(MIXED, [at])), list)

    def test_through_showns(self):
        rows = [("false",), ("shown", 3, 0), ("shown", 2, 1), ("not", 2), ("shown", 1, 0)]
        self.assertEqual(showns(rows, [3]), [1, 2])
        self.assertEqual(showns(rows, [4, 3]), [1, 2, 4])

    def test_none_twice_unordered(self):
        self.assertEqual(showns(MIXED, []), [])
        self.assertEqual(showns(MIXED, [6, 4, 6]), [2, 6])
        self.assertEqual(showns(tuple(MIXED), (7, 6)), [2, 6])

    def test_long_chains(self):
        rows = [("false",)] + [("shown", 1, at) for at in range(1999)]
        self.assertEqual(showns(rows, [1999]), list(range(1, 2000)))
        self.assertEqual(showns(rows, [0]), [])
        self.assertEqual(showns(rows, [1]), [1])


class NoSome(Asked):

    def test_no_list(self):
        for asked in (hangs_on, showns):
            for some in no_lists():
                with self.subTest(asked=asked, some=some):
                    self.refused(0, asked, MIXED, some)

    def test_no_number_of_a_row(self):
        for asked in (hangs_on, showns):
            for wrong in [8, 9, -1, -8, 2000, 10 ** 39] + no_numbers():
                with self.subTest(asked=asked, wrong=wrong):
                    self.refused(0, asked, MIXED, [wrong])
                    self.refused(2, asked, MIXED, [7, 1, wrong])
                    self.refused(1, asked, MIXED, (5, wrong, 8, None))
            self.refused(0, asked, [], [0])


if __name__ == "__main__":
    unittest.main()
