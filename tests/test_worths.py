"""[100], [101], and [2](e), [3] and [4] of them: tables, floors, what is best, and which pairs stand."""

import random
import unittest

from lookthrough.alikes import alike
from lookthrough.endings import begin, brought, endings, led, move_by
from lookthrough.errors import NoMoves, NoPlayers, NoWorths
from lookthrough.facing import Faced, opponent
from lookthrough.meetings import Meeting
from lookthrough.players import Player, plain
from lookthrough.worths import Table, best, floor, shows_stood, standing, stood
import plainly
from asking import Asked, no_others, no_players, other_objects
from folk import CD, F, FALSE, T, no_stands, password, till, trusting
from things import nested, no_lists, no_moves_names, no_numbers, some_player

# Each would rather have d done than c by itself, and c by the other one.
DILEMMA = {("c", "c"): (3, 3), ("c", "d"): (0, 5), ("d", "c"): (5, 0), ("d", "d"): (1, 1)}
# Of moves that have nothing in common.
MINE, YOURS = ["stay", "go"], ["left", "mid", "right"]
CHASE = {("stay", "left"): (4, -4), ("stay", "mid"): (0, 0), ("stay", "right"): (-7, 2),
         ("go", "left"): (1, 1), ("go", "mid"): (2, 2), ("go", "right"): (3, -1)}


def dilemma():
    return Table(CD, CD, DILEMMA)


def chase():
    return Table(MINE, YOURS, CHASE)


def some_table(seed, mine, yours, most):
    return Table(mine, yours, {(a, b): (seed.randint(-most, most), seed.randint(-most, most))
                               for a in mine for b in yours})


class Made(Asked):

    def test_what_it_tells(self):
        for made in (chase(), Table(tuple(MINE), tuple(YOURS), CHASE), Table(worths=CHASE, yours=YOURS, mine=MINE)):
            self.assertEqual((made.mine(), made.yours()), (tuple(MINE), tuple(YOURS)))
            self.assertIs(type(made.mine()), tuple)
            self.assertIs(type(made.yours()), tuple)
            for (a, b), worth in CHASE.items():
                self.assertEqual(made.worth(a, b), worth)
                self.assertEqual(made.worth(b=b, a=a), worth)
                self.assertIs(type(made.worth(a, b)), tuple)

    def test_one_to_four_moves(self):
        names = ["c", "d", "e", "f"]
        for many in range(1, 5):
            for more in range(1, 5):
                mine, yours = names[:many], names[:more]
                table = Table(mine, yours, {(a, b): (len(a), 7) for a in mine for b in yours})
                self.assertEqual(len(table.mine()) * len(table.yours()), many * more)

    def test_worths_at_their_bounds(self):
        for worth in (-1000, 1000, -999, 999, 0):
            self.assertEqual(Table(["c"], ["d"], {("c", "d"): (worth, -worth)}).worth("c", "d"), (worth, -worth))
        for worth in (-1001, 1001, -10 ** 39, 10 ** 39):
            for pair in ((worth, 0), (0, worth), (worth, worth)):
                self.refused(NoWorths, {}, Table, ["c"], ["d"], {("c", "d"): pair})

    def test_lists_for_tuples(self):
        table = Table(CD, CD, {pair: list(worth) for pair, worth in DILEMMA.items()})
        self.assertEqual(table, dilemma())
        self.assertEqual(repr(table.worth("c", "d")), "(0, 5)")

    def test_no_moves(self):
        for moves in no_others():
            with self.subTest(moves=moves):
                self.refused(NoMoves, {}, Table, moves, CD, DILEMMA)
                self.refused(NoMoves, {}, Table, CD, moves, DILEMMA)
                self.refused(NoMoves, {}, Table, moves, moves, None)
                self.refused(NoMoves, {}, Table, CD, moves, None)

    def test_no_dict(self):
        for worths in [*[thing for thing in no_lists() if thing != {}], [], (), list(DILEMMA.items()), [DILEMMA],
                       *other_objects(), nested(30, lambda thing: [thing])]:
            with self.subTest(worths=worths):
                self.refused(NoWorths, {}, Table, CD, CD, worths)

    def test_no_worths_of_the_pairs(self):
        for pair in DILEMMA:
            lacking = {other: worth for other, worth in DILEMMA.items() if other != pair}
            self.refused(NoWorths, {}, Table, CD, CD, lacking)
            for other in (("c", "x"), ("x", "c"), ("x", "y"), "cd", ("c",), ("c", "c", "c"), 0, None, True, ()):
                self.refused(NoWorths, {}, Table, CD, CD, {**lacking, other: (0, 0)})
                self.refused(NoWorths, {}, Table, CD, CD, {**DILEMMA, other: (0, 0)})
        self.refused(NoWorths, {}, Table, CD, CD, {})
        self.refused(NoWorths, {}, Table, MINE, YOURS, DILEMMA)
        # The pairs are mine's first.
        self.refused(NoWorths, {}, Table, YOURS, MINE, CHASE)
        self.refused(NoWorths, {}, Table, CD, ["c"], DILEMMA)
        self.refused(NoWorths, {}, Table, CD, [*CD, "e"], DILEMMA)

    def test_no_pair_of_worths(self):
        wrong = [(thing, 0) for thing in no_numbers()] + [(0, thing) for thing in no_numbers()]
        wrong += [(0,), (0, 0, 0), (), [], [0], [0, True], {0: 0, 1: 0}, {0, 1}, "00", None, 0, True, some_player()]
        for thing in wrong:
            for pair in DILEMMA:
                with self.subTest(thing=thing, pair=pair):
                    self.refused(NoWorths, {}, Table, CD, CD, {**DILEMMA, pair: thing})

    def test_what_is_handed_in(self):
        mine, yours = ["c", "d"], ["c", "d"]
        worths = {pair: list(worth) for pair, worth in DILEMMA.items()}
        table = Table(mine, yours, worths)
        self.assertEqual((mine, yours), (CD, CD))
        self.assertEqual(worths, {pair: list(worth) for pair, worth in DILEMMA.items()})
        mine.reverse()
        yours.append("e")
        worths[("c", "c")][0] = 99
        worths[("d", "d")] = (99, 99)
        del worths[("c", "d")]
        self.assertEqual(table, dilemma())
        self.assertEqual(table.worth("c", "c"), (3, 3))
        self.assertEqual(table.turned().turned(), dilemma())


class Worth(Asked):

    def test_no_moves(self):
        for wrong in no_moves_names() + other_objects() + ["x", "stays", "mid", "cc"]:
            with self.subTest(wrong=wrong):
                self.refused(NoMoves, {}, chase().worth, wrong, "left")
                self.refused(NoMoves, {}, chase().worth, wrong, None)
        for wrong in no_moves_names() + other_objects() + ["x", "stay"]:
            self.refused(NoMoves, {}, chase().worth, "stay", wrong)
        self.refused(NoMoves, {}, chase().worth, "left", "stay")

    def test_turned(self):
        turned = chase().turned()
        self.assertIs(type(turned), Table)
        self.assertEqual((turned.mine(), turned.yours()), (tuple(YOURS), tuple(MINE)))
        for (a, b), (mine, yours) in CHASE.items():
            self.assertEqual(turned.worth(b, a), (yours, mine))
        self.assertEqual(turned.turned(), chase())
        self.assertEqual(dilemma().turned(), dilemma())

    def test_equal(self):
        order = {pair: DILEMMA[pair] for pair in sorted(DILEMMA, reverse=True)}
        self.assertTrue(Table(CD, CD, order) == dilemma())
        self.assertFalse(Table(CD, CD, order) != dilemma())
        for other in (Table(["d", "c"], CD, DILEMMA), Table(CD, ["d", "c"], DILEMMA), chase(), chase().turned(),
                      Table(CD, CD, {**DILEMMA, ("c", "d"): (0, 4)}), Table(CD, CD, {**DILEMMA, ("c", "d"): (5, 0)})):
            self.assertFalse(other == dilemma())
            self.assertTrue(other != dilemma())
        for thing in [*no_lists(), [], DILEMMA, (tuple(CD), tuple(CD), DILEMMA), *other_objects()]:
            self.assertIs(dilemma() == thing, False)
            self.assertIs(thing == dilemma(), False)

    def test_floor(self):
        for table, told in ((dilemma(), (1, "d")), (dilemma().turned(), (1, "d")), (chase(), (2, "stay")),
                            (chase().turned(), (2, "mid")),
                            (Table(["c"], ["d"], {("c", "d"): (5, -9)}), (-9, "c")),
                            (Table(CD, ["x"], {("c", "x"): (0, 4), ("d", "x"): (0, 4)}), (4, "c")),
                            (Table(["d", "c"], ["x"], {("c", "x"): (0, 4), ("d", "x"): (0, 4)}), (4, "d")),
                            (Table(["d", "c", "e"], ["x"], {("c", "x"): (0, 3), ("d", "x"): (0, 4),
                                                            ("e", "x"): (0, 3)}), (3, "c"))):
            self.assertEqual(floor(table), told)
            self.assertEqual(floor(table=table), told)
            self.assertIs(type(floor(table)), tuple)

    def test_floor_of_some(self):
        seed = random.Random(100)
        for _ in range(200):
            mine, yours = seed.sample("cdef", seed.randint(1, 4)), seed.sample("cdxy", seed.randint(1, 4))
            table = some_table(seed, mine, yours, seed.choice([1, 2, 1000]))
            greatest = [max(table.worth(a, b)[1] for b in yours) for a in mine]
            self.assertEqual(floor(table), (min(greatest), mine[greatest.index(min(greatest))]))


class Best(Asked):

    def test_small_ones(self):
        for player, told in ((plain(CD, "c"), (5, ("c", "d"), ())), (plain(CD, "d"), (1, ("d", "d"), ())),
                             (trusting(0), (3, ("c", "c"), ())), (till(0), (1, ("d", "d"), ())),
                             (password("d", "d"), (5, ("c", "d"), ())), (password("c"), (5, ("c", "d"), ("c",))),
                             (password("d", "c"), (5, ("c", "d"), ("d", "c"))),
                             (trusting(99), (3, ("c", "c"), ()))):
            with self.subTest(rows=player.rows()):
                self.assertEqual(best(dilemma(), player), told)
                self.assertEqual(best(player=player, table=dilemma()), told)
                self.assertEqual(repr(best(dilemma(), player)), repr(told))

    def test_the_first_of_the_greatest(self):
        even = Table(CD, ["x", "y"], {(a, b): (0, 8) for a in "cd" for b in "xy"})
        self.assertEqual(best(even, plain(CD, "d")), (8, ("d", "x"), ()))
        self.assertEqual(best(even, till(1)), (8, ("d", "x"), ()))
        seen = Player(CD, [("does", 1, "x"), ("shown", 0, 0)], [1])
        self.assertEqual(best(even, seen), (8, ("c", "x"), ()))
        odd = Table(CD, ["x", "y"], {("c", "x"): (0, 2), ("c", "y"): (0, 9), ("d", "x"): (0, 9), ("d", "y"): (0, 9)})
        self.assertEqual(best(odd, seen), (9, ("d", "x"), ("y",)))
        turned = Table(["d", "c"], ["y", "x"], {("c", "x"): (0, 9), ("c", "y"): (0, 9), ("d", "x"): (0, 9),
                                                ("d", "y"): (0, 9)})
        rows = [("does", 1, "x"), ("shown", 0, 0), ("not", 1)]
        self.assertEqual(best(turned, Player(["d", "c"], rows, [2])), (9, ("d", "y"), ()))

    def test_no_player_of_these_moves(self):
        for thing in no_players():
            with self.subTest(thing=thing):
                self.refused(NoPlayers, {}, best, dilemma(), thing)
        for moves in (["d", "c"], ["c"], ["c", "d", "e"], ["c", "e"], MINE):
            self.refused(NoPlayers, {}, best, dilemma(), plain(moves, moves[0]))
        self.refused(NoPlayers, {}, best, chase(), plain(["go", "stay"], "go"))
        self.refused(NoPlayers, {}, best, chase().turned(), plain(MINE, "go"))
        self.assertEqual(best(chase().turned(), plain(YOURS, "mid")), (2, ("mid", "go"), ()))

    def test_some(self):
        seed = random.Random(101)
        for _ in range(120):
            mine = seed.sample("cdef", seed.randint(1, 4))
            yours = seed.sample("cdxy", seed.randint(1, 4))
            player = plainly.some_player(seed, seed.randrange(1, 22), seed.choice([0, 2, 3]), tuple(mine))
            table = some_table(seed, mine, yours, seed.choice([1, 3, 1000]))
            pairs = endings(player, yours)
            most = max(table.worth(a, b)[1] for a, b in pairs)
            first = [(a, b) for a in mine for b in yours if (a, b) in pairs and table.worth(a, b)[1] == most][0]
            with self.subTest(rows=player.rows(), yours=yours):
                worth, pair, letters = best(table, player)
                self.assertEqual((worth, pair), (most, first))
                self.assertEqual(("row", letters), brought(player, yours, *pair))
                # [2](e): an opponent has that, and none has more.
                last = Meeting([player, opponent(yours, letters, pair[1])]).last()
                self.assertEqual(table.worth(*last)[1], most)
                for _ in range(4):
                    other = plainly.some_player(seed, seed.randrange(1, 20), 3, tuple(yours))
                    self.assertLessEqual(table.worth(*Meeting([player, other]).last())[1], most)
                self.assertGreaterEqual(most, floor(table)[0])


class Stood(Asked):

    def held(self, table, a, b):
        """What stood tells of a pair that stands, looked at from all sides."""
        answer = stood(table, a, b)
        self.assertIs(type(answer), tuple)
        word, one, other, ones, others = answer
        self.assertEqual(word, "stands")
        self.assertEqual((one.moves(), other.moves()), (table.mine(), table.yours()))
        meeting = Meeting([one, other])
        self.assertEqual({meeting.moves_at(level) for level in (0, 1, 2, 3, 10 ** 9)}, {(a, b)})
        self.assertEqual(meeting.stays(), 0)
        for at, player, papers, moves in ((1, one, ones, table.yours()), (0, other, others, table.mine())):
            self.papered(player, papers, moves)
            for mine, yours in endings(player, moves):
                pair = (mine, yours) if at else (yours, mine)
                self.assertLessEqual(table.worth(*pair)[at], table.worth(a, b)[at])
        self.assertIs(shows_stood(table, a, b, answer), True)
        return answer

    def papered(self, player, papers, moves):
        """All that is come to is in the paper."""
        self.assertIs(type(papers), tuple)
        self.assertIn(begin(player), papers)
        for stand in papers:
            for letter in moves:
                self.assertIn(led(player, stand, letter), papers)

    def test_standing(self):
        for table, told in ((dilemma(), [("c", "c"), ("d", "d")]), (chase(), [("go", "mid")]),
                            (Table(["c"], ["d"], {("c", "d"): (-9, 9)}), [("c", "d")]),
                            (Table(CD, ["x", "y"], {(a, b): (0, 0) for a in CD for b in "xy"}),
                             [("c", "x"), ("c", "y"), ("d", "x"), ("d", "y")])):
            self.assertEqual(standing(table), told)
            self.assertEqual(standing(table=table), told)
            self.assertIs(type(standing(table)), list)
            standing(table).clear()
            self.assertEqual(standing(table), told)

    def test_standing_of_some(self):
        seed = random.Random(102)
        for _ in range(150):
            mine, yours = seed.sample("cdef", seed.randint(1, 4)), seed.sample("cdxy", seed.randint(1, 4))
            table = some_table(seed, mine, yours, seed.choice([1, 3, 1000]))
            # What mine can be held to is its least, over yours, of the greatest worth to mine.
            floors = (min(max(table.worth(a, b)[0] for a in mine) for b in yours),
                      min(max(table.worth(a, b)[1] for b in yours) for a in mine))
            told = [(a, b) for a in mine for b in yours
                    if table.worth(a, b)[0] >= floors[0] and table.worth(a, b)[1] >= floors[1]]
            self.assertEqual(standing(table), told)
            for a in mine:
                for b in yours:
                    with self.subTest(mine=mine, yours=yours, pair=(a, b)):
                        if (a, b) in told:
                            self.held(table, a, b)
                        else:
                            seat = 0 if table.worth(a, b)[0] < floors[0] else 1
                            self.assertEqual(stood(table, a, b), ("left", seat, floors[seat]))
                            self.assertIs(shows_stood(table, a, b, ("left", seat, floors[seat])), True)

    def test_small_ones(self):
        self.held(dilemma(), "c", "c")
        self.held(dilemma(), "d", "d")
        self.held(chase(), "go", "mid")
        self.assertEqual(stood(dilemma(), "c", "d"), ("left", 0, 1))
        self.assertEqual(stood(dilemma(), "d", "c"), ("left", 1, 1))
        self.assertEqual(stood(chase(), "stay", "left"), ("left", 1, 2))
        self.assertEqual(stood(chase(), "stay", "right"), ("left", 0, 2))
        # Less than the floor to both: the first one.
        self.assertEqual(stood(chase(), "go", "left"), ("left", 0, 2))
        self.assertEqual(stood(table=chase(), b="left", a="go"), ("left", 0, 2))
        self.assertEqual(repr(stood(dilemma(), "c", "d")), "('left', 0, 1)")

    def test_no_moves(self):
        answer = stood(dilemma(), "c", "c")
        for wrong in no_moves_names() + other_objects() + ["x", "left"]:
            with self.subTest(wrong=wrong):
                self.refused(NoMoves, {}, stood, chase(), wrong, "left" if wrong != "left" else "mid")
                self.refused(NoMoves, {}, shows_stood, chase(), wrong, None, answer)
        for wrong in no_moves_names() + other_objects() + ["x", "stay"]:
            self.refused(NoMoves, {}, stood, chase(), "stay", wrong)
            self.refused(NoMoves, {}, shows_stood, chase(), "stay", wrong, answer)
            self.refused(NoMoves, {}, shows_stood, chase(), "stay", wrong, None)

    def test_asked_again(self):
        table = dilemma()
        answer = stood(table, "c", "c")
        stood(table, "d", "d")
        standing(table).clear()
        again = stood(table, "c", "c")
        self.assertEqual(again, answer)
        self.assertEqual(table, dilemma())

    def test_keepers_against_anyone(self):
        # [2](e): whoever is met, no other one has more at last than the pair is worth.
        seed = random.Random(103)
        for table in (dilemma(), chase()):
            for a, b in standing(table):
                _, one, other, _, _ = stood(table, a, b)
                mine, yours = table.worth(a, b)
                for _ in range(25):
                    met = plainly.some_player(seed, seed.randrange(1, 25), 4, table.yours())
                    self.assertLessEqual(table.worth(*Meeting([one, met]).last())[1], yours)
                    met = plainly.some_player(seed, seed.randrange(1, 25), 4, table.mine())
                    self.assertLessEqual(table.worth(*Meeting([met, other]).last())[0], mine)
                self.assertEqual(alike(one, one, table.yours())[0], "alike")


class ShowsStood(Asked):

    def setUp(self):
        self.table = dilemma()
        _, self.one, self.other, self.ones, self.others = stood(self.table, "c", "c")

    def shows(self, *answer, a="c", b="c"):
        return shows_stood(self.table, a, b, answer)

    def test_told_ones(self):
        self.assertIs(self.shows("stands", self.one, self.other, self.ones, self.others), True)
        answer = stood(self.table, "c", "c")
        self.assertIs(shows_stood(answer=answer, b="c", a="c", table=self.table), True)

    def test_in_any_order_and_twice(self):
        for ones in (self.ones[::-1], self.ones * 2, self.ones + self.ones[:1]):
            self.assertIs(self.shows("stands", self.one, self.other, ones, self.others), True)
            self.assertIs(self.shows("stands", self.one, self.other, self.ones, ones), True)

    def test_one_left_out(self):
        for at in range(len(self.ones)):
            left = self.ones[:at] + self.ones[at + 1:]
            self.assertIs(self.shows("stands", self.one, self.other, left, self.others), False)
            self.assertIs(self.shows("stands", self.one, self.other, self.ones, left), False)
        self.assertIs(self.shows("stands", self.one, self.other, (), ()), False)

    def test_stands_more(self):
        # Told by two showns, of which each falls where c isn't done, the second one behind the first level.
        rows = [("does", 1, "c"), ("shown", 0, 0), ("shown", 1, 0), ("and", 1, 2)]
        one = Player(CD, rows, [3])
        stands = [begin(one)]
        for stand in stands:
            stands += [to for to in (led(one, stand, letter) for letter in CD) if to not in stands]
        self.assertIs(self.shows("stands", one, self.other, tuple(stands), self.others), True)
        more = [stand for stand in plainly.forms(one) if stand not in stands]
        behind = {stand: {led(one, stand, letter) for letter in CD} for stand in more}
        for stand in more:
            told = tuple(stands) + (stand,)
            self.assertIs(self.shows("stands", one, self.other, told, self.others), behind[stand] <= set(told))
        self.assertIs(self.shows("stands", one, self.other, tuple(stands + more), self.others), True)

    def test_a_stand_that_rests_so(self):
        # It does c always, so d is worth 5 to the other one.
        one = plain(CD, "c")
        self.assertEqual(Meeting([one, self.other]).last(), ("c", "c"))
        self.assertIs(self.shows("stands", one, self.other, ((0, ()),), self.others), False)
        self.assertIs(self.shows("stands", self.one, one, self.ones, ((0, ()),)), False)
        # One that is never come to, but is told, counts.
        rows = [("does", 1, "c"), ("shown", 0, 0), ("shown", 0, 0), ("not", 2), ("or", 1, 3), ("shown", 0, 4),
                ("and", 1, 2), ("not", 5), ("or", 6, 7)]
        one, never = Player(CD, rows, [8]), (0, (F, F, F))
        stands = ((0, (T, T, T)), (0, (F, F, T)))
        self.assertEqual((move_by(one, never), led(one, never, "d")), ("c", never))
        self.assertIs(self.shows("stands", one, self.other, stands, self.others), True)
        self.assertIs(self.shows("stands", one, self.other, stands + (never,), self.others), False)

    def test_worth_as_much_is_let_by(self):
        table = Table(CD, CD, {**DILEMMA, ("c", "d"): (0, 3), ("d", "c"): (3, 0)})
        one = plain(CD, "c")
        self.assertIs(shows_stood(table, "c", "c", ("stands", one, one, ((0, ()),), ((0, ()),))), True)
        more = Table(CD, CD, {**DILEMMA, ("c", "d"): (0, 4), ("d", "c"): (3, 0)})
        self.assertIs(shows_stood(more, "c", "c", ("stands", one, one, ((0, ()),), ((0, ()),))), False)
        more = Table(CD, CD, {**DILEMMA, ("c", "d"): (0, 3), ("d", "c"): (4, 0)})
        self.assertIs(shows_stood(more, "c", "c", ("stands", one, one, ((0, ()),), ((0, ()),))), False)

    def test_the_letters_are_the_other_ones_moves(self):
        # It looks for another letter than the other one has.
        table, rows = chase(), [("does", 1, "mid"), ("shown", 0, 0), ("not", 1)]
        one = Player(MINE, rows, [2])
        _, told, other, ones, others = stood(table, "go", "mid")
        self.assertIs(shows_stood(table, "go", "mid", ("stands", one, other, ((0, (T,)), (0, (F,))), others)), True)
        self.assertIs(shows_stood(table, "go", "mid", ("stands", one, other, ((0, (T,)),), others)), False)
        self.assertIs(shows_stood(table, "go", "mid", ("stands", told, other, ones, others)), True)
        self.assertIs(shows_stood(table.turned(), "mid", "go", ("stands", other, told, others, ones)), True)
        self.assertIs(shows_stood(table, "go", "mid", ("stands", other, told, others, ones)), False)

    def test_at_last_alone(self):
        # They do c at last, not at level 0.
        rows = [FALSE, ("shown", 0, 0), ("not", 1), ("does", 1, "c"), ("or", 1, 3), ("shown", 1, 3), ("and", 2, 5)]
        late = Player(CD, rows, [6])
        self.assertEqual(Meeting([late, late]).moves_at(0), ("d", "d"))
        self.assertEqual(Meeting([late, late]).last(), ("c", "c"))
        stands = [begin(late)]
        for stand in stands:
            stands += [to for to in (led(late, stand, letter) for letter in CD) if to not in stands]
        self.assertIs(self.shows("stands", late, late, tuple(stands), tuple(stands)), True)
        self.assertIs(self.shows("stands", late, self.other, tuple(stands), self.others), False)

    def test_another_pair(self):
        self.assertIs(self.shows("stands", self.one, self.other, self.ones, self.others, a="d", b="d"), False)
        self.assertIs(self.shows("stands", self.one, self.other, self.ones, self.others, a="c", b="d"), False)

    def test_players_of_other_moves(self):
        wide = Player(["c", "d", "e"], [("does", 1, "c"), ("shown", 0, 0), ("not", 1)], [1, 2])
        turned = Player(["d", "c"], [("does", 1, "c"), ("shown", 0, 0), ("not", 1)], [2])
        for player in (wide, turned, *no_players()):
            with self.subTest(player=player):
                self.assertIs(self.shows("stands", player, self.other, self.ones, self.others), False)
                self.assertIs(self.shows("stands", self.one, player, self.ones, self.others), False)

    def test_papers_of_no_stands(self):
        for wrong in [(stand,) for stand in no_stands(self.one)] + [None, [], list(self.ones), "c", 0, True, {},
                                                                    self.one]:
            with self.subTest(wrong=wrong):
                told = self.ones + wrong if isinstance(wrong, tuple) else wrong
                self.assertIs(self.shows("stands", self.one, self.other, told, self.others), False)
                self.assertIs(self.shows("stands", self.one, self.other, self.ones, told), False)
        numbers = tuple((n, tuple(int(truth) for truth in held)) for n, held in self.ones)
        self.assertEqual(numbers, self.ones)
        self.assertIs(self.shows("stands", self.one, self.other, numbers, self.others), False)

    def test_left(self):
        self.assertIs(self.shows("left", 0, 1, a="c", b="d"), True)
        self.assertIs(self.shows("left", 1, 1, a="d", b="c"), True)
        for told in (("left", 1, 1), ("left", 0, 0), ("left", 0, 2), ("left", False, 1), ("left", 0, True),
                     ("left", 0), ("left", 0, 1, 1), ("lefts", 0, 1), (0, 1), ("left", "0", "1"), ("left", None, 1)):
            self.assertIs(self.shows(*told, a="c", b="d"), False)
        self.assertIs(shows_stood(self.table, "c", "d", ["left", 0, 1]), False)
        # Of a pair that stands nothing is left.
        for told in (("left", 0, 1), ("left", 1, 1), ("left", 0, 3)):
            self.assertIs(self.shows(*told), False)
        # The first seat, though it is less to both.
        self.assertIs(shows_stood(chase(), "go", "left", ("left", 0, 2)), True)
        self.assertIs(shows_stood(chase(), "go", "left", ("left", 1, 2)), False)

    def test_of_anything(self):
        answer = stood(self.table, "c", "c")
        for thing in [*no_lists(), [], (), list(answer), answer[:4], (*answer, None), answer[1:], (answer,),
                      ("stand", *answer[1:]), (None, *answer[1:]), ("stands",), ("stands", None, None, None, None),
                      (some_player(), *answer[1:]), *other_objects(), nested(30, lambda thing: (thing,)),
                      nested(30, lambda thing: [thing]), {answer[0]: answer[1:]}]:
            for a, b in (("c", "c"), ("c", "d")):
                with self.subTest(thing=thing, b=b):
                    self.assertIs(shows_stood(self.table, a, b, thing), False)

    def test_of_many_stands(self):
        rows = [("does", 1, "c"), ("shown", 0, 0), FALSE, ("shown", 99, 2), ("or", 3, 1), ("and", 1, 4)]
        slow = Player(CD, rows, [5])
        stands = [begin(slow)]
        for stand in stands:
            stands += [to for to in (led(slow, stand, letter) for letter in CD) if to not in stands]
        self.assertGreater(len(stands), 100)
        self.assertIs(self.shows("stands", slow, self.other, tuple(stands), self.others), True)
        self.assertIs(self.shows("stands", slow, self.other, tuple(stands[:-1]), self.others), False)


class Letters(unittest.TestCase):

    def test_they_lead_there(self):
        table = Table(CD, ["c", "x"], {("c", "c"): (0, 0), ("c", "x"): (0, 1), ("d", "c"): (0, 2), ("d", "x"): (0, 3)})
        worth, pair, letters = best(table, password("x", "c"))
        self.assertEqual((worth, pair), (3, ("d", "x")))
        self.assertEqual(Faced(password("x", "c"), letters, "x").last(), "d")


if __name__ == "__main__":
    unittest.main()
