"""[30], and [1], [2](a), [3] and [4] of it: meetings, their moves and what holds in them."""

import random
import unittest
from itertools import product

from lookthrough.errors import NoLevel, NoPlayers, NoRow, NoSeat
from lookthrough.meetings import Meeting
from lookthrough.players import Player, plain
import plainly
from asking import Asked, no_levels, no_players, other_objects
from things import no_lists, no_numbers

CD = ["c", "d"]
FALSE, TRUE = ("false",), ("not", 0)


def till(level):
    """Does c up to this level, d behind it."""
    return Player(CD, [FALSE, ("shown", level, 0)], [1])


def trusting(k):
    """Does c where the next one did it at each level from k on."""
    return Player(CD, [FALSE, ("does", 1, "c"), ("shown", k, 1)], [2])


def watcher(move, rows):
    """Does a move always, and has these rows from row 2 on; nothing chosen hangs on them."""
    return Player(CD, [FALSE, TRUE, *rows], [1 if move == "c" else 0])


class Made(Asked):

    def test_one_to_four(self):
        for many in (1, 2, 3, 4):
            for moves in product(CD, repeat=many):
                meeting = Meeting([plain(CD, move) for move in moves])
                self.assertEqual(meeting.moves_at(0), moves)
                self.assertEqual(meeting.last(), moves)
                self.assertEqual(meeting.stays(), 0)
                self.assertIs(type(meeting.last()), tuple)
                self.assertIs(type(meeting.moves_at(7)), tuple)
                self.assertIs(type(meeting.stays()), int)

    def test_one_at_several_seats(self):
        player = till(3)
        for seats in ([player] * 4, [player, plain(CD, "d"), player], [player, player]):
            meeting = Meeting(seats)
            for at, seat in enumerate(seats):
                if seat is player:
                    told = [meeting.moves_at(level)[at] for level in range(6)]
                    self.assertEqual(told, ["c"] * 4 + ["d"] * 2)

    def test_none_and_five(self):
        player = plain(CD, "c")
        for players in ([], (), [player] * 5, (player,) * 5, [player] * 400):
            self.refused(NoPlayers, {}, Meeting, players)

    def test_no_list(self):
        for players in no_lists():
            with self.subTest(players=players):
                self.refused(NoPlayers, {}, Meeting, players)

    def test_no_player_among_them(self):
        player = plain(CD, "c")
        for thing in no_players():
            with self.subTest(thing=thing):
                for players in ([thing], [thing, player], [player, player, thing], (player, thing)):
                    self.refused(NoPlayers, {}, Meeting, players)

    def test_other_objects_for_a_list(self):
        for thing in other_objects():
            self.refused(NoPlayers, {}, Meeting, thing)

    def test_a_list_that_is_changed_behind(self):
        players = [till(2), trusting(0)]
        meeting = Meeting(players)
        self.assertEqual(players, [till(2), trusting(0)])
        paper = meeting.paper()
        players[0] = plain(["x"], "x")
        players.append(plain(["x"], "x"))
        self.assertEqual([meeting.moves_at(level) for level in range(5)],
                         [("c", "c")] * 3 + [("d", "c"), ("d", "d")])
        self.assertEqual(meeting.paper(), paper)
        self.refused(NoSeat, {"seat": 2}, meeting.holds, 2, 0, 0)
        self.assertIs(meeting.holds(1, 1, 2), True)

    def test_a_tuple(self):
        meeting = Meeting((till(2), trusting(0)))
        self.assertEqual(meeting.moves_at(3), ("d", "c"))
        self.assertEqual(meeting.last(), ("d", "d"))

    def test_by_name(self):
        meeting = Meeting(players=[till(2)])
        self.assertEqual(meeting.moves_at(level=3), ("d",))
        self.assertIs(meeting.holds(level=2, row=1, seat=0), True)
        self.assertIs(meeting.holds(0, level=3, row=1), False)


class Chosen(unittest.TestCase):

    def test_the_first_that_holds(self):
        rows = [FALSE, TRUE, ("shown", 0, 0), ("shown", 2, 0)]
        for chosen, told in (([2, 3], "ceedd"), ([3, 2], "cccdd"), ([2, 2], "cdddd"),
                             ([0, 3], "eeedd"), ([0, 1], "eeeee"), ([1, 0], "ccccc"),
                             ([0, 0], "ddddd")):
            meeting = Meeting([Player(["c", "e", "d"], rows, chosen)])
            with self.subTest(chosen=chosen):
                self.assertEqual("".join(meeting.moves_at(level)[0] for level in range(5)), told)

    def test_four_moves(self):
        rows = [FALSE, ("shown", 3, 0), ("shown", 1, 0), ("shown", 2, 0)]
        meeting = Meeting([Player(["c", "d", "e", "f"], rows, [2, 3, 1])])
        self.assertEqual([meeting.moves_at(level)[0] for level in range(6)], list("ccdeff"))
        self.assertEqual((meeting.stays(), meeting.last()), (4, ("f",)))

    def test_one_move(self):
        meeting = Meeting([Player(["c"], [], []), Player(["d"], [("does", 0, "d")], [])])
        self.assertEqual((meeting.stays(), meeting.last()), (0, ("c", "d")))
        self.assertIs(meeting.holds(1, 0, 0), True)


class Rows(Asked):

    def test_does_at_each_seat(self):
        rows = [("does", k, move) for k in (0, 1, 2, 3) for move in ("c", "d", "e")]
        for many in (1, 2, 3, 4):
            for moves in product(CD, repeat=many):
                meeting = Meeting([watcher(move, rows) for move in moves])
                for seat in range(many):
                    for at, (_, k, move) in enumerate(rows):
                        told = k < many and moves[(seat + k) % many] == move
                        for level in (0, 1, 10 ** 9):
                            with self.subTest(moves=moves, seat=seat, k=k, move=move):
                                self.assertIs(meeting.holds(seat, at + 2, level), told)

    def test_does_is_of_the_same_level(self):
        meeting = Meeting([till(3), watcher("c", [("does", 1, "c"), ("does", 1, "d"), ("does", 0, "c")])])
        for level in range(8):
            self.assertIs(meeting.holds(1, 2, level), level <= 3)
            self.assertIs(meeting.holds(1, 3, level), level > 3)
            self.assertIs(meeting.holds(1, 4, level), True)

    def test_not_and_or_at_each_seat(self):
        rows = [(word, i, j) for word in ("and", "or") for i in (0, 1) for j in (0, 1)]
        rows += [("not", 1), ("not", 0), ("false",)]
        told = [False, False, False, True, False, True, True, True, False, True, False]
        for many in (1, 2, 3, 4):
            meeting = Meeting([watcher("c", rows)] * many)
            for seat in range(many):
                self.assertIs(meeting.holds(seat, 0, 5), False)
                self.assertIs(meeting.holds(seat, 1, 5), True)
                for at, truth in enumerate(told):
                    for level in (0, 3, 10 ** 9):
                        self.assertIs(meeting.holds(seat, at + 2, level), truth)

    def test_not_and_or_of_what_is_done(self):
        # 2, 3: does; 4: and; 5: or; 6: not; 7: not of the or
        rows = [("does", 1, "c"), ("does", 2, "c"), ("and", 2, 3), ("or", 2, 3), ("not", 2), ("not", 5)]
        for one, two in product(CD, repeat=2):
            meeting = Meeting([watcher("d", rows), plain(CD, one), plain(CD, two)])
            told = [one == "c", two == "c", one == two == "c", "c" in (one, two), one != "c",
                    "c" not in (one, two)]
            for at, truth in enumerate(told):
                self.assertIs(meeting.holds(0, at + 2, 1), truth)

    def test_rows_that_nothing_chosen_hangs_on(self):
        rows = [FALSE, ("shown", 1, 0), ("shown", 99, 0), ("shown", 0, 2), ("does", 1, "d"), ("shown", 4, 4)]
        meeting = Meeting([Player(CD, rows, [1]), till(6)])
        told = [[], range(2), range(100), range(101), range(7, 10 ** 9), range(5)]
        for at, levels in enumerate(told):
            for level in [*range(12), *range(95, 105), 500, 10 ** 9 - 1]:
                with self.subTest(at=at, level=level):
                    self.assertIs(meeting.holds(0, at, level), level in levels)
        self.assertEqual((meeting.stays(), meeting.last()), (7, ("d", "d")))
        self.assertEqual(len(meeting.paper()), 8)


class Showns(Asked):

    def test_up_to_k_and_behind_it(self):
        ks = (0, 1, 2, 50, 98, 99)
        rows = [("shown", k, at) for k in ks for at in (0, 1)]
        meeting = Meeting([watcher("c", rows)] * 2)
        for place, k in enumerate(ks):
            for level in {0, 1, 2, 3, max(k - 1, 0), k, k + 1, k + 2, 98, 99, 100, 101, 10 ** 9}:
                with self.subTest(k=k, level=level):
                    self.assertIs(meeting.holds(1, 2 * place + 2, level), level <= k)
                    self.assertIs(meeting.holds(1, 2 * place + 3, level), True)

    def test_a_row_that_holds_at_one_level(self):
        # 1 up to 4; 2 up to 5; 3 from 5 on; 4 at 5 alone
        rows = [FALSE, ("shown", 4, 0), ("shown", 5, 0), ("not", 1), ("and", 2, 3)]
        rows += [("shown", k, 4) for k in range(9)]
        meeting = Meeting([Player(CD, rows, [1])])
        for level in range(15):
            self.assertIs(meeting.holds(0, 4, level), level == 5)
            for k in range(9):
                with self.subTest(k=k, level=level):
                    self.assertIs(meeting.holds(0, 5 + k, level), level <= (6 if k == 5 else k))

    def test_a_row_that_fails_at_one_level(self):
        rows = [FALSE, ("shown", 4, 0), ("shown", 5, 0), ("not", 1), ("and", 2, 3), ("not", 4)]
        rows += [("shown", k, 5) for k in range(9)]
        meeting = Meeting([Player(CD, rows, [1])])
        for level in [*range(15), 10 ** 9]:
            for k in range(9):
                with self.subTest(k=k, level=level):
                    self.assertIs(meeting.holds(0, 6 + k, level), level <= 5 or k > 5)

    def test_of_what_is_done(self):
        for k, behind in ((0, 0), (0, 3), (3, 0), (5, 5), (99, 0), (0, 99), (99, 99), (98, 99), (99, 97)):
            meeting = Meeting([trusting(k), till(behind)])
            last = max(k, behind + 1)
            with self.subTest(k=k, behind=behind):
                self.assertEqual(meeting.stays(), last + 1)
                self.assertEqual(meeting.last(), ("d", "d"))
                for level in (0, k, behind, last, last + 1, last + 2, 10 ** 9):
                    self.assertIs(meeting.holds(0, 2, level), level <= last)
                    self.assertEqual(meeting.moves_at(level), ("c" if level <= last else "d",
                                                               "c" if level <= behind else "d"))

    def test_they_look_through_one_another(self):
        for many in (2, 3, 4):
            meeting = Meeting([trusting(0)] * many)
            self.assertEqual((meeting.stays(), meeting.last()), (0, ("c",) * many))
            # One that falls brings the others down, one level after another, round the ring.
            meeting = Meeting([trusting(0)] * (many - 1) + [till(9)])
            self.assertEqual((meeting.stays(), meeting.last()), (9 + many, ("d",) * many))
            for seat in range(many):
                told = [meeting.moves_at(level)[seat] for level in range(20)]
                self.assertEqual(told.index("d"), 9 + many - seat)
                self.assertEqual(told, sorted(told))

    def test_by_itself(self):
        # c while it did c itself at all lower levels; d as soon as it didn't
        meeting = Meeting([Player(CD, [("does", 0, "c"), ("shown", 0, 0)], [1])])
        self.assertEqual((meeting.stays(), meeting.last()), (0, ("c",)))
        # c at level 0 alone: from level 1 on it would have had to do d there
        meeting = Meeting([Player(CD, [("does", 0, "d"), ("shown", 0, 0)], [1])])
        self.assertEqual((meeting.stays(), meeting.last()), (1, ("d",)))

    def test_moves_that_go_to_and_fro(self):
        rows = [FALSE] + [("shown", k, 0) for k in range(0, 100, 7)]
        rows.append(("not", 1))
        odd = len(rows) - 1
        for at in range(2, 16, 2):
            rows += [("and", odd, at), ("not", at + 1), ("or", len(rows), len(rows) + 1)]
            odd = len(rows) - 1
        player = Player(CD, rows, [odd])
        meeting, plain_one = Meeting([player, trusting(1)]), plainly.Plainly([player, trusting(1)])
        self.assertEqual([meeting.moves_at(level) for level in range(110)],
                         [plain_one.moves_at(level) for level in range(110)])
        self.assertEqual(meeting.stays(), plain_one.stays())
        self.assertGreater(meeting.stays(), 90)


class Chains(Asked):

    def test_showns_of_showns(self):
        rows = [FALSE] + [("shown", 0, at) for at in range(1999)]
        meeting = Meeting([Player(CD, rows, [1999])])
        self.assertEqual((meeting.stays(), meeting.last()), (1999, ("d",)))
        for at in (1, 2, 1000, 1998, 1999):
            for level in (at - 1, at, at + 1):
                with self.subTest(at=at, level=level):
                    self.assertIs(meeting.holds(0, at, level), level < at)
        self.assertEqual(meeting.moves_at(1998), ("c",))

    def test_showns_of_showns_that_fall_late(self):
        rows = [FALSE] + [("shown", 99, at) for at in range(1200)]
        meeting = Meeting([till(5), Player(CD, rows, [1200]), till(7)])
        self.assertEqual((meeting.stays(), meeting.last()), (99 + 1200, ("d",) * 3))
        for at in (1, 2, 600, 1200):
            self.assertIs(meeting.holds(1, at, 98 + at), True)
            self.assertIs(meeting.holds(1, at, 99 + at), False)

    def test_nots_ands_ors(self):
        for word in ("not", "and", "or"):
            rows = [FALSE, ("shown", 3, 0)]
            rows += [(word,) + (at,) * (1 if word == "not" else 2) for at in range(1, 1999)]
            meeting = Meeting([Player(CD, rows, [1999])] * 2)
            with self.subTest(word=word):
                turned = word == "not" and 1998 % 2 == 1
                for level in (0, 3, 4, 5, 10 ** 9):
                    self.assertIs(meeting.holds(1, 1999, level), (level <= 3) != turned)
                    self.assertIs(meeting.holds(0, 1998, level), (level <= 3) != (word == "not"))
                self.assertEqual((meeting.stays(), meeting.last()), (4, ("d", "d")))

    def test_a_chain_round_the_ring(self):
        # Each does c while what it looks at held; what one shows of the next one's shows falls late.
        rows = [FALSE, ("does", 1, "c")] + [("shown", 0, at) for at in range(1, 1001)]
        meeting = Meeting([Player(CD, rows, [1001])] * 3 + [till(0)])
        self.assertEqual(meeting.last(), ("d",) * 4)
        self.assertEqual(meeting.stays(), 3001)
        self.assertEqual([meeting.moves_at(level) for level in (1000, 1001, 2001, 3000)],
                         [("c", "c", "c", "d"), ("c", "c", "d", "d"), ("c", "d", "d", "d"),
                          ("c", "d", "d", "d")])


class Refused(Asked):

    def setUp(self):
        self.meeting = Meeting([till(3), trusting(1), Player(["c"], [], [])])

    def test_levels(self):
        for level in (0, 1, 3, 4, 99, 1000, 10 ** 9 - 1, 10 ** 9):
            self.assertEqual(self.meeting.moves_at(level), ("c" if level <= 3 else "d", "c", "c"))
            self.assertIs(self.meeting.holds(0, 1, level), level <= 3)

    def test_no_level(self):
        for level in no_levels():
            with self.subTest(level=level):
                self.refused(NoLevel, {"level": level}, self.meeting.moves_at, level)
                self.refused(NoLevel, {"level": level}, self.meeting.moves_at, level=level)
                self.refused(NoLevel, {"level": level}, self.meeting.holds, 0, 0, level)
                self.refused(NoLevel, {"level": level}, self.meeting.holds, row=2, level=level, seat=1)

    def test_seats(self):
        for seat, row in ((0, 0), (0, 1), (1, 0), (1, 2)):
            self.assertIs(type(self.meeting.holds(seat, row, 0)), bool)
        for seat in [-1, -3, 3, 4, 10 ** 39, *no_numbers(), *other_objects()]:
            with self.subTest(seat=seat):
                self.refused(NoSeat, {"seat": seat}, self.meeting.holds, seat, 0, 0)
                self.refused(NoSeat, {"seat": seat}, self.meeting.holds, level=0, seat=seat, row=0)

    def test_seats_of_one_to_four(self):
        for many in (1, 2, 3, 4):
            meeting = Meeting([till(3)] * many)
            self.assertIs(meeting.holds(many - 1, 1, 3), True)
            self.refused(NoSeat, {"seat": many}, meeting.holds, many, 1, 3)

    def test_rows(self):
        for seat, many in enumerate((2, 3, 0)):
            for row in [-1, -2, many, many + 1, 2000, 10 ** 39, *no_numbers(), *other_objects()]:
                with self.subTest(seat=seat, row=row):
                    self.refused(NoRow, {"at": row}, self.meeting.holds, seat, row, 0)
                    self.refused(NoRow, {"at": row}, self.meeting.holds, seat, level=0, row=row)

    def test_of_several_the_first(self):
        for wrong in (-1, None, True, "0", [0], 10 ** 9 + 1):
            with self.subTest(wrong=wrong):
                self.refused(NoSeat, {"seat": wrong}, self.meeting.holds, wrong, wrong, wrong)
                self.refused(NoSeat, {"seat": wrong}, self.meeting.holds, wrong, 0, wrong)
                self.refused(NoSeat, {"seat": wrong}, self.meeting.holds, wrong, wrong, 0)
                self.refused(NoRow, {"at": wrong}, self.meeting.holds, 1, wrong, wrong)
                self.refused(NoRow, {"at": wrong}, self.meeting.holds, 2, wrong, wrong)

    def test_a_row_of_another_seat(self):
        self.assertIs(self.meeting.holds(1, 2, 0), True)
        self.refused(NoRow, {"at": 2}, self.meeting.holds, 0, 2, 0)

    def test_what_is_refused_leaves_all_as_it_was(self):
        told = [self.meeting.moves_at(level) for level in range(9)]
        paper = self.meeting.paper()
        for thing in (-1, None, [0], True):
            self.refused(NoLevel, {"level": thing}, self.meeting.moves_at, thing)
            self.refused(NoSeat, {"seat": thing}, self.meeting.holds, thing, 0, 0)
        self.assertEqual([self.meeting.moves_at(level) for level in range(9)], told)
        self.assertEqual((self.meeting.paper(), self.meeting.stays()), (paper, 4))

    def test_a_refusal_tells_what_was_handed_in(self):
        things = [1, {"c": [2, (3, [4])]}, (5, [6])]
        before = [1, {"c": [2, (3, [4])]}, (5, [6])]
        for asked, field in ((lambda: self.meeting.moves_at(things), "level"),
                             (lambda: self.meeting.holds(things, 0, 0), "seat"),
                             (lambda: self.meeting.holds(0, things, 0), "at")):
            with self.assertRaises(ValueError) as caught:
                asked()
            things[1]["c"][1][1].append(0)
            things[2][1].append(0)
            things.append(0)
            self.assertEqual(vars(caught.exception)[field], before)
            things = [1, {"c": [2, (3, [4])]}, (5, [6])]


class HeldAgainstAPlainOne(unittest.TestCase):

    def each(self, many, far_k):
        seed = random.Random(far_k)
        for _ in range(many):
            players = []
            for _ in range(seed.randrange(1, 5)):
                moves = ("c", "d", "e", "f")[:seed.choice([1, 2, 2, 3, 4])]
                players.append(plainly.some_player(seed, seed.randrange(1, 25), far_k, moves))
            if len(players) > 1 and seed.randrange(3) == 0:
                players[-1] = players[0]
            with self.subTest(players=[player.rows() for player in players]):
                self.hold_against(players)

    def hold_against(self, players):
        meeting, plain_one = Meeting(players), plainly.Plainly(players)
        bound = plain_one.bound()
        told = [plain_one.moves_at(level) for level in range(bound + 3)]
        self.assertEqual([meeting.moves_at(level) for level in range(bound + 3)], told)
        self.assertEqual(meeting.last(), told[-1])
        self.assertEqual(meeting.moves_at(10 ** 9), told[-1])
        self.assertEqual(meeting.stays(), plain_one.stays())
        # [2](a)
        self.assertLessEqual(meeting.stays(), bound)
        for seat, player in enumerate(players):
            for row in range(len(player.rows())):
                for level in (0, 1, 2, 3, 4, 7, bound, bound + 1):
                    self.assertIs(meeting.holds(seat, row, level), plain_one.holds(seat, row, level))
        self.assertEqual(meeting.stays(), plain_one.stays())

    def test_ks_of_0(self):
        self.each(60, 0)

    def test_small_ks(self):
        self.each(120, 3)

    def test_ks_to_9(self):
        self.each(60, 9)

    def test_all_ks(self):
        self.each(40, 99)


if __name__ == "__main__":
    unittest.main()
