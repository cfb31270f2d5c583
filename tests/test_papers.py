"""[31], and [2](a), [3] and [4] of it: papers of meetings, and whether they show what is done at last."""

import random
import unittest

from lookthrough.errors import NoPlayers
from lookthrough.meetings import Meeting, shows_last
from lookthrough.players import Player, plain
import plainly
from asking import Asked, no_players, other_objects
from things import nested, no_lists, some_player

CD = ["c", "d"]
FALSE = ("false",)


def till(level):
    return Player(CD, [FALSE, ("shown", level, 0)], [1])


def trusting(k):
    return Player(CD, [FALSE, ("does", 1, "c"), ("shown", k, 1)], [2])


def anything():
    """Things that are no paper, nor moves."""
    return [*no_lists(), [], (), [[]], [()], ([],), ((),), (((),),), ((True,),), True, (None,), (0,), {(): ()},
            {0: True}, (some_player(),), some_player(), *other_objects(), tuple(other_objects()),
            nested(30, lambda thing: (thing,)), nested(30, lambda thing: [thing]),
            nested(30, lambda thing: {"c": thing}), ("c", "d"), ["c", "d"]]


class Papers(unittest.TestCase):

    def test_the_line_of_each_level(self):
        self.assertEqual(Meeting([till(0)]).paper(), (((True,),), ((False,),)))
        self.assertEqual(Meeting([till(2)]).paper(), (((True,),),) * 3 + (((False,),),))
        self.assertEqual(Meeting([till(1), trusting(0)]).paper(),
                         (((True,), (True,)), ((True,), (True,)), ((False,), (True,)), ((False,), (False,))))
        self.assertEqual(Meeting([trusting(0), till(1)]).paper(),
                         (((True,), (True,)), ((True,), (True,)), ((True,), (False,)), ((False,), (False,))))

    def test_showns_rise(self):
        rows = [FALSE, ("shown", 2, 0), ("shown", 0, 0), ("shown", 1, 0)]
        player = Player(["c", "d", "e", "f"], rows, [3, 1, 2])
        self.assertEqual(Meeting([player]).paper(),
                         (((True, True, True),), ((True, False, True),), ((True, False, False),),
                          ((False, False, False),)))

    def test_showns_of_chosen_alone(self):
        rows = [FALSE, ("shown", 0, 0), ("shown", 50, 0), ("shown", 1, 0)]
        self.assertEqual(Meeting([Player(CD, rows, [3])]).paper(),
                         (((True,),), ((True,),), ((False,),)))
        self.assertEqual(Meeting([Player(CD, rows, [0])]).paper(), (((),),))

    def test_none_has_showns(self):
        for many in (1, 2, 3, 4):
            self.assertEqual(Meeting([plain(CD, "c")] * many).paper(), (((),) * many,))

    def test_it_ends_at_the_greatest_top_or_later(self):
        # What is shown of what always holds never falls; so the first line stays from level 0 on.
        always = Player(CD, [FALSE, ("not", 0), ("shown", 60, 1)], [2])
        self.assertEqual(Meeting([always]).paper(), (((True,),),) * 61)
        self.assertEqual(Meeting([plain(CD, "c"), always]).paper(), (((), (True,)),) * 61)
        self.assertEqual(len(Meeting([always, till(59)]).paper()), 61)
        self.assertEqual(len(Meeting([always, till(60)]).paper()), 62)
        self.assertEqual(len(Meeting([always, till(61)]).paper()), 63)
        self.assertEqual(len(Meeting([always, till(99)]).paper()), 101)
        self.assertEqual(len(Meeting([always, till(61), trusting(0)]).paper()), 63)
        self.assertEqual(len(Meeting([always, trusting(0), till(61)]).paper()), 64)

    def test_it_is_of_tuples_and_truths(self):
        paper = Meeting([till(3), trusting(1)]).paper()
        self.assertIs(type(paper), tuple)
        for line in paper:
            self.assertIs(type(line), tuple)
            for held in line:
                self.assertIs(type(held), tuple)
                for truth in held:
                    self.assertIs(type(truth), bool)

    def test_it_ends_later_than_the_moves_stay(self):
        # A shown falls at last on which its move hangs no more.
        rows = [FALSE, ("shown", 0, 0), ("shown", 7, 0), ("and", 1, 2)]
        meeting = Meeting([Player(CD, rows, [3])])
        self.assertEqual((meeting.stays(), len(meeting.paper())), (1, 9))

    def test_it_is_told_again_after_other_askings(self):
        meeting = Meeting([till(3), trusting(1)])
        paper = meeting.paper()
        for level in (0, 10 ** 9, 2):
            meeting.moves_at(level)
            meeting.holds(0, 1, level)
            self.assertEqual(meeting.paper(), paper)
        meeting.last(), meeting.stays()
        Meeting([trusting(1), till(3)]).paper()
        self.assertEqual(meeting.paper(), paper)
        self.assertEqual(Meeting([till(3), trusting(1)]).paper(), paper)


class Shown(Asked):

    def test_the_paper_and_last(self):
        for players in ([plain(CD, "c")], [till(0)], [till(3), trusting(1)], [trusting(2)] * 4,
                        [trusting(9), plain(CD, "c"), till(99)], [some_player(), trusting(0)]):
            meeting = Meeting(players)
            self.assertIs(shows_last(players, meeting.paper(), meeting.last()), True)
            self.assertIs(shows_last(tuple(players), meeting.paper(), meeting.last()), True)

    def test_by_name(self):
        meeting = Meeting([till(1)])
        self.assertIs(shows_last(moves=("d",), paper=meeting.paper(), players=[till(1)]), True)
        self.assertIs(shows_last([till(1)], moves=("c",), paper=meeting.paper()), False)

    def test_moves(self):
        players = [till(3), trusting(1)]
        paper = Meeting(players).paper()
        for moves in (("d", "c"), ("c", "d"), ("c", "c"), ("d",), ("d", "d", "d"), (), ["d", "d"], "dd",
                      ("d", ["d"]), (("d", "d"),), ("d", "e"), ("d", None), None, True, ("d", True), {"d": "d"}):
            with self.subTest(moves=moves):
                self.assertIs(shows_last(players, paper, moves), False)
        self.assertIs(shows_last(players, paper, ("d", "d")), True)

    def test_a_line_less_or_more_or_twice(self):
        for players in ([till(0)], [till(3), trusting(1)], [till(1), some_player(), plain(CD, "c")],
                        [Player(CD, [FALSE, ("not", 0), ("shown", 6, 1)], [2])], [plain(CD, "c")]):
            meeting = Meeting(players)
            paper, moves = meeting.paper(), meeting.last()
            many = len(paper)
            wrong = [paper[:at] + paper[at + 1:] for at in range(many)]
            wrong += [paper[:at] + paper[at:at + 1] + paper[at:] for at in range(many)]
            wrong += [paper + paper[-1:] * 2, paper * 2, paper[::-1] + paper, ()]
            for other in wrong:
                with self.subTest(players=players, other=other):
                    self.assertIs(shows_last(players, other, moves), False)
            self.assertIs(shows_last(players, paper, moves), True)

    def test_a_truth_turned(self):
        players = [till(3), trusting(1), some_player()]
        meeting = Meeting(players)
        paper, moves = meeting.paper(), meeting.last()
        for level, line in enumerate(paper):
            for seat, held in enumerate(line):
                for at, truth in enumerate(held):
                    turned = held[:at] + (not truth,) + held[at + 1:]
                    other = line[:seat] + (turned,) + line[seat + 1:]
                    with self.subTest(level=level, seat=seat, at=at):
                        self.assertIs(shows_last(players, paper[:level] + (other,) + paper[level + 1:], moves),
                                      False)

    def test_numbers_where_truths_are(self):
        players = [till(1), trusting(0)]
        meeting = Meeting(players)
        paper, moves = meeting.paper(), meeting.last()
        numbers = tuple(tuple(tuple(int(truth) for truth in held) for held in line) for line in paper)
        self.assertEqual(numbers, paper)
        self.assertIs(shows_last(players, numbers, moves), False)
        for level in range(len(paper)):
            for seat in (0, 1):
                line = paper[level][:seat] + numbers[level][seat:seat + 1] + paper[level][seat + 1:]
                self.assertIs(shows_last(players, paper[:level] + (line,) + paper[level + 1:], moves), False)

    def test_lists_where_tuples_are_asked(self):
        players = [till(1), trusting(0)]
        meeting = Meeting(players)
        paper, moves = meeting.paper(), meeting.last()
        self.assertIs(shows_last(players, list(paper), moves), False)
        self.assertIs(shows_last(players, paper, list(moves)), False)
        for level, line in enumerate(paper):
            for other in (list(line), (list(line[0]), line[1]), (line[0], list(line[1]))):
                self.assertIs(shows_last(players, paper[:level] + (other,) + paper[level + 1:], moves), False)

    def test_lines_of_another_form(self):
        players = [till(1), trusting(0)]
        meeting = Meeting(players)
        paper, moves = meeting.paper(), meeting.last()
        for level, line in enumerate(paper):
            for other in (line[:1], line + ((),), line + line[:1], (line[0] + (True,), line[1]), (line[0], ()),
                          line[0] + line[1], (), ((),), None, True, 0, "c", {}, some_player(), (line,),
                          (line[0], (None,)), (line[0], None), (line[0], True), (line[0], ("c",)),
                          (line[0], (some_player(),)), nested(30, lambda thing: (thing,))):
                with self.subTest(level=level, other=other):
                    self.assertIs(shows_last(players, paper[:level] + (other,) + paper[level + 1:], moves), False)

    def test_of_anything(self):
        players = [till(1), trusting(0)]
        meeting = Meeting(players)
        for thing in anything():
            with self.subTest(thing=thing):
                self.assertIs(shows_last(players, thing, meeting.last()), False)
                self.assertIs(shows_last(players, meeting.paper(), thing), False)
                for other in anything():
                    self.assertIs(shows_last(players, thing, other), False)

    def test_of_other_players(self):
        players = [till(1), trusting(0)]
        meeting = Meeting(players)
        for others in ([trusting(0), till(1)], [till(1)], [till(1), trusting(0), plain(CD, "c")],
                       [till(2), trusting(0)], [till(1), trusting(9)], [till(1), till(1)],
                       [Player(["x", "y"], till(1).rows(), [1]), trusting(0)]):
            self.assertIs(shows_last(others, meeting.paper(), meeting.last()), False)

    def test_no_players(self):
        paper = Meeting([till(1)]).paper()
        for players in [*no_lists(), [], (), [till(1)] * 5, *other_objects()]:
            with self.subTest(players=players):
                self.refused(NoPlayers, {}, shows_last, players, paper, ("d",))
                self.refused(NoPlayers, {}, shows_last, players, None, None)
        for thing in no_players():
            self.refused(NoPlayers, {}, shows_last, [till(1), thing], paper, ("d",))

    def test_long_papers(self):
        rows = [FALSE] + [("shown", 0, at) for at in range(1200)]
        players = [Player(CD, rows, [1200]), trusting(0)]
        paper = Meeting(players).paper()
        self.assertEqual(len(paper), 1202)
        self.assertIs(shows_last(players, paper, ("d", "d")), True)
        self.assertIs(shows_last(players, paper[:-1], ("d", "c")), False)
        self.assertIs(shows_last(players, paper[:-1], ("d", "d")), False)
        self.assertIs(shows_last(players, paper + paper[-1:], ("d", "d")), False)
        self.assertIs(shows_last(players, paper, ("c", "d")), False)

    def test_nothing_is_changed(self):
        players = [till(1), trusting(0)]
        paper, moves = [[[True], [True]]], ["d", "d"]
        shows_last(players, paper, moves)
        self.assertEqual((players, paper, moves), ([till(1), trusting(0)], [[[True], [True]]], ["d", "d"]))


class HeldAgainstAPlainOne(unittest.TestCase):

    def test_papers(self):
        seed = random.Random(31)
        for _ in range(150):
            far_k = seed.choice([0, 2, 5, 99])
            players = [plainly.some_player(seed, seed.randrange(1, 20), far_k, CD)
                       for _ in range(seed.randrange(1, 5))]
            meeting, plain_one = Meeting(players), plainly.Plainly(players)
            paper = plain_one.paper()
            with self.subTest(players=[player.rows() for player in players]):
                self.assertEqual(meeting.paper(), paper)
                self.assertIs(shows_last(players, paper, meeting.last()), True)
                # [2](a): it shows what is done at last, and no other paper does.
                others = [line for line in [("c",), ("d",)] if line != meeting.last()[:1]]
                for other in others:
                    self.assertIs(shows_last(players, paper, other + meeting.last()[1:]), False)
                self.assertIs(shows_last(players, paper[:-1], meeting.last()), False)
                self.assertIs(shows_last(players, paper + paper[-1:], meeting.last()), False)


if __name__ == "__main__":
    unittest.main()
