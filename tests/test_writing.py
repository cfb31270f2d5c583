"""[90], and [2](d), [3] and [4] of it: players of machines, and the smallest ones that are alike."""

import random
import unittest

from lookthrough.alikes import alike
from lookthrough.endings import endings
from lookthrough.errors import NoMoves, NoPlayers
from lookthrough.facing import Faced
from lookthrough.machines import Machine, machine_of
from lookthrough.meetings import Meeting
from lookthrough.players import Player, plain
from lookthrough.writing import player_of, smallest
import plainly
from asking import Asked, no_others, no_players
from folk import CD, FALSE, nots, password, till, trusting
from plainmachines import chain, pin, some_rows
from things import no_moves_names

MOVES = ["c", "d", "e", "f"]


def stands_of(player, others):
    """How many stands it comes to by letters of others, by [60]'s words."""
    found = [(0, (True,) * len(player.showns()))]
    for stand in found:
        for letter in others:
            to = plainly.led_from(player, stand, letter)
            if to not in found:
                found.append(to)
    return len(found)


def laden(player, k):
    """The player, but its choices hang also on showns that change nothing of what it does."""
    rows = list(player.rows())
    at = len(rows)
    rows += [("does", 1, "d"), ("shown", k, at), ("does", 1, "c"), ("shown", 0, at + 2), ("and", at + 1, at + 3),
             ("not", at + 4), ("and", at + 4, at + 5)]
    chosen = []
    for choice in player.chosen():
        rows.append(("or", choice, at + 6))
        chosen.append(len(rows) - 1)
    return Player(player.moves(), rows, chosen)


class Written(Asked):

    def written(self, machine, moves):
        """The player of a machine, looked at from all sides."""
        player, least = player_of(machine, moves), machine.least()
        self.assertIs(type(player), Player)
        self.assertEqual(player.moves(), tuple(moves))
        self.assertEqual(machine_of(player, machine.letters()), least)
        self.assertEqual(stands_of(player, machine.letters()), len(least.rows()))
        self.assertEqual(player_of(machine, tuple(moves)), player)
        return player


class PlayerOf(Written):

    def test_one_row(self):
        for moves in (["c"], ["c", "d"], ["d", "c"], ["x", "c", "y", "z"]):
            for letters in (["c"], CD, ["w", "x", "y", "z"]):
                player = self.written(Machine(letters, [("c", (0,) * len(letters))]), moves)
                self.assertEqual(player.showns(), [])
                self.assertEqual(Faced(player, letters, letters[0]).last(), "c")

    def test_rows_that_do_alike(self):
        self.written(Machine(CD, [("c", (0, 1)), ("c", (1, 1))]), ["d", "c"])
        self.written(Machine(CD, [("c", (1, 2)), ("d", (3, 3)), ("d", (3, 3)), ("c", (3, 3))]), CD)
        # More rows that are never come to.
        self.written(Machine(CD, [("c", (0, 0)), ("e", (1, 0))]), CD)

    def test_few_rows(self):
        for letters, rows in (
                (["c"], [("c", (1,)), ("d", (1,))]), (CD, [("c", (0, 1)), ("d", (1, 1))]),
                (CD, [("c", (1, 1)), ("d", (2, 2)), ("c", (2, 2))]),
                (CD, [("c", (1, 2)), ("d", (1, 1)), ("e", (2, 2))]),
                # Splits and comes together again.
                (CD, [("c", (1, 2)), ("d", (3, 1)), ("e", (3, 3)), ("c", (3, 3))]),
                (CD, [("c", (1, 2)), ("d", (3, 4)), ("e", (4, 3)), ("c", (3, 5)), ("d", (5, 4)), ("f", (5, 5))]),
                # Many ends, and one row between them and the first.
                (MOVES, [("c", (1, 2, 3, 4)), ("d", (1,) * 4), ("e", (2,) * 4), ("f", (3,) * 4), ("c", (4,) * 4)]),
                (MOVES, [("c", (0, 1, 2, 3)), ("d", (1, 3, 1, 4)), ("e", (2, 4, 3, 2)), ("c", (3, 3, 4, 3)),
                         ("f", (4,) * 4)])):
            for moves in (MOVES, MOVES[::-1], ["e", "c", "f", "d"]):
                with self.subTest(rows=rows, moves=moves):
                    self.written(Machine(letters, rows), moves)

    def test_what_it_does(self):
        machine = pin("c", "x", "d", "d")
        for moves in (["c", "d", "e"], ["e", "d", "c"], ["d", "x", "e", "c"]):
            player = self.written(machine, moves)
            for word in plainly.words(["c", "d", "x"], 5):
                self.assertEqual(Faced(player, word, "c").move_at(len(word)), machine.does(word))

    def test_letters_in_other_orders(self):
        for letters in (["d", "c", "x"], ["x", "c", "d"]):
            order = ["cdx".index(letter) for letter in letters]
            rows = [(move, tuple(tos[at] for at in order)) for move, tos in pin("d", "x").rows()]
            machine = Machine(letters, rows)
            player = self.written(machine, ["c", "d", "e"])
            self.assertEqual(alike(player, player_of(pin("d", "x"), ["c", "d", "e"]), letters)[0], "alike")

    def test_long_chains(self):
        for many in (2, 3, 10, 39, 40):
            for moves in (["c"] * (many - 1) + ["d"], [MOVES[at % 4] for at in range(many)],
                          (["c", "d"] * many)[:many]):
                machine = chain(moves)
                self.assertEqual(len(machine.least().rows()), many)
                player = self.written(machine, MOVES)
                self.assertEqual([Faced(player, [], "c").move_at(at) for at in range(many + 5)],
                                 moves + moves[-1:] * 5)
        player = self.written(pin(*"cdxcdxcdxcdxcdxcdxcdxcdxcdxcdxcdxcdxcd"), ["c", "d", "e"])
        self.assertEqual(len(machine_of(player, ["c", "d", "x"]).rows()), 40)

    def test_forty_rows_however_they_hang_together(self):
        for letters in (["c"], CD, ["c", "d", "e"], MOVES):
            for ways in range(6):
                rows = []
                for at in range(40):
                    # To the next one, to the last one, a few further on, and where it is.
                    tos = [min(at + 1, 39), 39, min(at + ways, 39),
                           at if ways % 2 else min(at + 2 * ways, 38 + at // 39)]
                    rows.append((MOVES[(at * (ways + 1) + at // 7) % 4], tuple(tos[:len(letters)])))
                self.written(Machine(letters, rows), MOVES)

    def test_all_rows_lead_to_all_ends(self):
        for ends in (2, 3, 4):
            many = 40 - ends
            rows = []
            for at in range(many):
                rows.append((MOVES[at % 2], (at + 1,) + tuple(many + end for end in range(ends))[:3]))
            rows += [(MOVES[end], (many + end,) * len(rows[0][1])) for end in range(ends)]
            machine = Machine(MOVES[:len(rows[0][1])], rows)
            self.assertGreaterEqual(len(machine.least().rows()), 39)
            self.written(machine, MOVES)

    def test_some_of_all_kinds(self):
        seed = random.Random(90)
        sizes = []
        for _ in range(250):
            letters = seed.sample(["c", "d", "e", "x"], seed.randint(1, 4))
            used = MOVES[:seed.randint(1, 4)]
            rows = some_rows(seed, seed.choice([1, 2, 3, 4, 6, 9, 20, 40]), letters, used, seed.choice([None, 1, 2, 4]))
            machine = Machine(letters, rows)
            moves = seed.sample(used, len(used)) if seed.randrange(2) else seed.sample(MOVES, 4)
            with self.subTest(letters=letters, rows=rows, moves=moves):
                player = self.written(machine, moves)
                sizes.append(len(machine.least().rows()))
                for _ in range(5):
                    word = tuple(seed.choice(letters) for _ in range(seed.choice([0, 1, 3, 8, 30])))
                    self.assertEqual(Faced(player, word, "c").move_at(len(word)), machine.does(word))
        self.assertGreater(max(sizes), 30)

    def test_in_a_meeting(self):
        # Whoever is met: what it does is what the machine does behind the other one's moves.
        seed = random.Random(91)
        for _ in range(40):
            rows = some_rows(seed, 7, CD, MOVES, 3)
            machine = Machine(CD, rows)
            player = player_of(machine, MOVES)
            other = plainly.some_player(seed, 10, 2, tuple(CD))
            meeting = Meeting([player, other])
            done = [meeting.moves_at(level) for level in range(15)]
            for level in range(15):
                self.assertEqual(done[level][0], machine.does([yours for _, yours in done[:level]]))

    def test_no_moves(self):
        machine = Machine(CD, [("c", (0, 1)), ("d", (1, 1))])
        for moves in no_others():
            with self.subTest(moves=moves):
                self.refused(NoMoves, {}, player_of, machine, moves)
        for moves in (["c"], ["d"], ["c", "e"], ["e", "f", "d"], ["x", "y", "z", "w"]):
            self.refused(NoMoves, {}, player_of, machine, moves)
            self.refused(NoMoves, {}, player_of, moves=moves, machine=machine)
        for wrong in no_moves_names():
            self.refused(NoMoves, {}, player_of, machine, ["c", "d", wrong])

    def test_moves_of_the_least_one_alone(self):
        machine = Machine(CD, [("c", (0, 0)), ("d", (1, 1))])
        self.assertEqual(player_of(machine, ["c"]).moves(), ("c",))
        self.refused(NoMoves, {}, player_of, machine, ["d"])

    def test_asked_again(self):
        machine, moves = pin("c", "d"), ["c", "d", "e"]
        first = player_of(machine, moves)
        player_of(pin("d", "c"), ["e", "c", "d"])
        self.assertEqual(moves, ["c", "d", "e"])
        moves.reverse()
        self.assertEqual(player_of(machine=machine, moves=["c", "d", "e"]), first)
        self.assertEqual(first.moves(), ("c", "d", "e"))


class Smallest(Written):

    def small(self, player, others):
        found, machine = smallest(player, others), machine_of(player, others)
        self.assertIs(type(found), Player)
        self.assertEqual(found.moves(), player.moves())
        self.assertEqual(alike(player, found, others)[0], "alike")
        self.assertEqual(machine_of(found, others), machine)
        self.assertEqual(stands_of(found, others), len(machine.rows()))
        self.assertEqual(smallest(others=tuple(others), player=player), found)
        return found

    def test_small_ones(self):
        for player in (plain(CD, "c"), plain(CD, "d"), trusting(0), trusting(2), till(0), till(3), nots(1, 6),
                       password("c", "d"), Player(["d"], [FALSE, ("shown", 5, 0)], []),
                       Player(["c", "d"], [FALSE, ("shown", 5, 0), ("not", 1), ("and", 1, 2)], [3])):
            for others in (["c"], ["d"], ["x"], CD, ["d", "c"], ["x", "c", "d"], ["d", "x", "c", "y"], ["x", "y"]):
                with self.subTest(rows=player.rows(), others=others):
                    self.small(player, others)

    def test_showns_that_do_nothing(self):
        # As trusting from level 0 on, but it counts levels, too.
        rows = [("does", 1, "c"), ("shown", 0, 0), FALSE, ("shown", 7, 2), ("not", 3), ("or", 3, 4), ("and", 1, 5)]
        player = Player(CD, rows, [6])
        self.assertGreater(stands_of(player, CD), 2)
        self.assertEqual(stands_of(self.small(player, CD), CD), 2)
        self.assertEqual(stands_of(self.small(player, ["c"]), ["c"]), 1)
        self.assertEqual(len(self.small(player, ["c"]).showns()), 0)

    def test_great_k(self):
        for k in (38, 60, 98, 99):
            for player in (trusting(k), till(k), nots(k, 1000), till(k)):
                for others in (CD, ["c"], ["x", "c"]):
                    with self.subTest(k=k, rows=len(player.rows()), others=others):
                        self.small(player, others)
        for k in (60, 99):
            player = laden(trusting(k), 50)
            self.assertGreater(stands_of(player, CD), k + 2)
            self.assertEqual(stands_of(self.small(player, CD), CD), k + 2)
        # Of a hundred levels two are told apart.
        rows = [FALSE, ("shown", 99, 0), ("shown", 1, 0), ("and", 1, 2), ("or", 2, 3)]
        player = Player(CD, rows, [4])
        self.assertEqual(stands_of(self.small(player, CD), CD), 3)

    def test_forty_stands_and_more(self):
        seed = random.Random(92)
        many, least = [], []
        for _ in range(40):
            letters = seed.sample(["c", "d", "e", "x"], seed.randint(1, 4))
            machine = Machine(letters, some_rows(seed, seed.choice([3, 10, 40]), letters, MOVES, seed.choice([2, 3])))
            player = laden(player_of(machine, MOVES), seed.choice([3, 12]))
            with self.subTest(machine=machine.rows()):
                found = self.small(player, letters)
                many.append(stands_of(player, letters))
                least.append(stands_of(found, letters))
        self.assertGreater(max(many), 100)
        self.assertGreater(max(least), 30)
        self.assertGreater(sum(1 for stands, rows in zip(many, least) if stands > 40 > rows), 4)

    def test_some_of_all_kinds(self):
        seed = random.Random(94)
        for _ in range(40):
            player = plainly.some_player(seed, seed.randrange(1, 30), seed.choice([0, 3, 12]), ("c", "d", "e"))
            others = seed.sample(["c", "d", "e", "x"], seed.randint(1, 4))
            with self.subTest(rows=player.rows(), others=others):
                self.small(player, others)

    def test_written_ones_stay_as_small(self):
        seed = random.Random(93)
        for _ in range(40):
            letters = seed.sample(["c", "d", "x"], seed.randint(1, 3))
            machine = Machine(letters, some_rows(seed, 12, letters, MOVES, 3))
            self.small(player_of(machine, MOVES), letters)

    def test_refused(self):
        for thing in no_players():
            with self.subTest(thing=thing):
                self.refused(NoPlayers, {}, smallest, thing, CD)
                self.refused(NoPlayers, {}, smallest, thing, None)
        for others in no_others():
            with self.subTest(others=others):
                self.refused(NoMoves, {}, smallest, trusting(0), others)

    def test_asked_again(self):
        others = ["c", "d"]
        first = smallest(nots(2, 4), others)
        self.assertEqual(others, ["c", "d"])
        endings(nots(2, 4), others).clear()
        smallest(nots(2, 4), ["d", "c"])
        others[0] = "x"
        self.assertEqual(smallest(nots(2, 4), ["c", "d"]), first)


if __name__ == "__main__":
    unittest.main()
