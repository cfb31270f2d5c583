"""[20], and [3] and [4] of it: players and the plain ones."""

import unittest

from lookthrough.errors import NoChoice, NoMoves, NoRow, SightError
from lookthrough.players import Player, plain
from things import no_lists, no_moves_names, no_numbers, some_player

# 0 false; 1 does; 2 shown of 1; 3 not 1; 4 and 0 2; 5 or 1 2; 6 shown of 5; 7 not 6; 8 not 0
ROWS = [("false",), ("does", 1, "c"), ("shown", 1, 1), ("not", 1), ("and", 0, 2),
        ("or", 1, 2), ("shown", 4, 5), ("not", 6), ("not", 0)]
LOOK_DOWN = (0, 2, 4, 6, 7, 8)


class Asked(unittest.TestCase):

    def refused(self, kind, at, asked, *things, **named):
        with self.assertRaises(SightError) as caught:
            asked(*things, **named)
        self.assertIs(type(caught.exception), kind)
        self.assertIsInstance(caught.exception, ValueError)
        self.assertEqual(vars(caught.exception), {} if at is None else {"at": at})


class Made(Asked):

    def test_what_it_tells(self):
        player = Player(["c", "d", "e"], ROWS, [4, 0])
        self.assertEqual(player.moves(), ("c", "d", "e"))
        self.assertEqual(player.rows(), tuple(ROWS))
        self.assertEqual(player.chosen(), (4, 0))
        for told in (player.moves(), player.rows(), player.chosen()):
            self.assertIs(type(told), tuple)

    def test_by_name(self):
        player = Player(chosen=[2], moves=["c", "d"], rows=ROWS)
        self.assertEqual(player, Player(["c", "d"], ROWS, [2]))

    def test_tuples_for_lists(self):
        player = Player(("c", "d"), tuple(ROWS), (2,))
        self.assertEqual(player, Player(["c", "d"], ROWS, [2]))
        for told in (player.moves(), player.rows(), player.chosen()):
            self.assertIs(type(told), tuple)

    def test_from_one_move_to_four(self):
        moves = ["c", "d", "e", "f"]
        for many in (1, 2, 3, 4):
            player = Player(moves[:many], ROWS, [2] * (many - 1))
            self.assertEqual(player.moves(), tuple(moves[:many]))
            self.assertEqual(player.chosen(), (2,) * (many - 1))

    def test_one_move_needs_no_row(self):
        player = Player(["c"], [], [])
        self.assertEqual((player.moves(), player.rows(), player.chosen()), (("c",), (), ()))
        self.assertEqual((player.showns(), player.top()), ([], 0))

    def test_chosen_in_any_order_and_twice(self):
        for chosen in ([8, 0], [0, 8], [6, 6]):
            self.assertEqual(Player(["c", "d", "e"], ROWS, chosen).chosen(), tuple(chosen))

    def test_its_moves_may_be_others_than_its_rows_name(self):
        self.assertEqual(Player(["x", "y"], ROWS, [2]).moves(), ("x", "y"))

    def test_lists_that_are_changed_behind(self):
        moves, rows, chosen = ["c", "d"], list(ROWS), [6]
        player = Player(moves, rows, chosen)
        self.assertEqual((moves, rows, chosen), (["c", "d"], ROWS, [6]))
        moves.append("e")
        moves[0] = "x"
        rows[6] = ("false",)
        rows.append(("false",))
        chosen[0] = 0
        chosen.append(0)
        self.assertEqual(player, Player(["c", "d"], ROWS, [6]))
        self.assertEqual((player.showns(), player.top()), ([2, 6], 4))


class ShownsAndTop(Asked):

    def test_of_chosen_alone(self):
        for at, told, top in ((0, [], 0), (2, [2], 1), (4, [2], 1), (6, [2, 6], 4), (7, [2, 6], 4),
                              (8, [], 0)):
            with self.subTest(at=at):
                player = Player(["c", "d"], ROWS, [at])
                self.assertEqual(player.showns(), told)
                self.assertIs(type(player.showns()), list)
                self.assertIs(type(player.top()), int)
                self.assertEqual(player.top(), top)

    def test_of_all_chosen(self):
        rows = [("false",), ("shown", 99, 0), ("shown", 3, 0), ("shown", 7, 0), ("shown", 5, 0)]
        player = Player(["c", "d", "e", "f"], rows, [4, 3, 2])
        self.assertEqual((player.showns(), player.top()), ([2, 3, 4], 7))
        self.assertEqual(Player(["c", "d"], rows, [1]).top(), 99)

    def test_a_top_of_0_with_showns(self):
        player = Player(["c", "d"], [("false",), ("shown", 0, 0)], [1])
        self.assertEqual((player.showns(), player.top()), ([1], 0))

    def test_the_greatest_k_behind_another_shown(self):
        rows = [("false",), ("shown", 9, 0), ("shown", 2, 1)]
        player = Player(["c", "d"], rows, [2])
        self.assertEqual((player.showns(), player.top()), ([1, 2], 9))

    def test_a_long_chain(self):
        rows = [("false",)] + [("shown", at % 100, at) for at in range(1999)]
        player = Player(["c", "d"], rows, [1999])
        self.assertEqual((player.showns(), player.top()), (list(range(1, 2000)), 99))

    def test_the_list_is_the_askers_own(self):
        player = Player(["c", "d"], ROWS, [6])
        player.showns().append(7)
        player.showns().clear()
        self.assertEqual((player.showns(), player.top()), ([2, 6], 4))


class Equal(unittest.TestCase):

    def test_to_an_equal_one(self):
        self.assertTrue(Player(["c", "d"], ROWS, [6]) == Player(("c", "d"), tuple(ROWS), (6,)))
        self.assertFalse(Player(["c", "d"], ROWS, [6]) != Player(["c", "d"], ROWS, [6]))

    def test_unlike_by_one_thing(self):
        player = Player(["c", "d"], ROWS, [6])
        for other in (Player(["c", "e"], ROWS, [6]), Player(["d", "c"], ROWS, [6]),
                      Player(["c", "d", "e"], ROWS, [6, 0]), Player(["c", "d"], ROWS, [7]),
                      Player(["c", "d"], ROWS + [("false",)], [6]),
                      Player(["c", "d"], ROWS[:8], [6]),
                      Player(["c", "d"], [*ROWS[:6], ("shown", 5, 5), *ROWS[7:]], [6]),
                      # It does the same: what isn't chosen counts, too.
                      Player(["c", "d"], ROWS[:8] + [("false",)], [6])):
            self.assertFalse(player == other)
            self.assertFalse(other == player)
            self.assertTrue(player != other)

    def test_to_nothing_else(self):
        player = some_player()
        told = (player.moves(), player.rows(), player.chosen())
        for other in [*no_lists(), told, list(told), [], (), player.moves(), player.rows()]:
            if not isinstance(other, Player):
                self.assertIs(player == other, False)
                self.assertIs(other == player, False)
                self.assertIs(player != other, True)


class NotMade(Asked):

    def test_moves_of_no_list(self):
        for moves in no_lists() + ["cd"]:
            with self.subTest(moves=moves):
                self.refused(NoMoves, None, Player, moves, ROWS, [2])

    def test_how_many_moves(self):
        self.refused(NoMoves, None, Player, [], ROWS, [])
        self.refused(NoMoves, None, Player, (), ROWS, [])
        self.refused(NoMoves, None, Player, ["c", "d", "e", "f", "g"], ROWS, [0, 0, 0, 0])

    def test_a_move_twice(self):
        for moves in (["c", "c"], ["c", "d", "c"], ["c", "d", "e", "e"]):
            self.refused(NoMoves, None, Player, moves, ROWS, [0] * (len(moves) - 1))

    def test_what_is_no_move(self):
        for thing in no_moves_names():
            with self.subTest(thing=thing):
                self.refused(NoMoves, None, Player, [thing], ROWS, [])
                self.refused(NoMoves, None, Player, ["c", thing], ROWS, [0])
                self.refused(NoMoves, None, Player, (thing, "c"), ROWS, [0])

    def test_rows(self):
        for rows in no_lists():
            with self.subTest(rows=rows):
                self.refused(NoRow, 0, Player, ["c"], rows, [])
        self.refused(NoRow, 9, Player, ["c"], ROWS + [("not", 9)], [])
        self.refused(NoRow, 1, Player, ["c"], [("false",), ["not", 0]], [])
        self.refused(NoRow, 2000, Player, ["c"], [("false",)] * 2001, [])

    def test_chosen_of_no_list(self):
        for chosen in no_lists():
            with self.subTest(chosen=chosen):
                self.refused(NoChoice, 0, Player, ["c"], ROWS, chosen)
                self.refused(NoChoice, 0, Player, ["c", "d", "e"], ROWS, chosen)

    def test_too_few(self):
        for many, moves in ((1, ["c", "d"]), (2, ["c", "d", "e"]), (3, ["c", "d", "e", "f"])):
            for there in range(many):
                with self.subTest(many=many, there=there):
                    self.refused(NoChoice, there, Player, moves, ROWS, [0] * there)

    def test_too_many(self):
        for many, moves in ((0, ["c"]), (1, ["c", "d"]), (3, ["c", "d", "e", "f"])):
            for more in (1, 2, 5):
                with self.subTest(many=many, more=more):
                    self.refused(NoChoice, many, Player, moves, ROWS, [0] * (many + more))
                    self.refused(NoChoice, many, Player, moves, ROWS, [0] * many + [None] * more)

    def test_what_is_no_row_that_looks_down(self):
        not_down = [at for at in range(len(ROWS)) if at not in LOOK_DOWN]
        self.assertEqual(not_down, [1, 3, 5])
        for thing in not_down + [9, 10, -1, -9, 2000, 10 ** 39] + no_numbers():
            with self.subTest(thing=thing):
                self.refused(NoChoice, 0, Player, ["c", "d"], ROWS, [thing])
                self.refused(NoChoice, 1, Player, ["c", "d", "e"], ROWS, (0, thing))
                self.refused(NoChoice, 1, Player, ["c", "d", "e", "f"], ROWS, [0, thing, 0])
        self.refused(NoChoice, 0, Player, ["c", "d"], [], [0])

    def test_rows_that_look_down(self):
        for at in LOOK_DOWN:
            self.assertEqual(Player(["c", "d"], ROWS, [at]).chosen(), (at,))

    def test_the_first_choice_is_told(self):
        moves = ["c", "d", "e", "f"]
        self.refused(NoChoice, 1, Player, moves, ROWS, [0, 1, 9])
        self.refused(NoChoice, 0, Player, moves, ROWS, [None])
        self.refused(NoChoice, 1, Player, moves, ROWS, [0, True])
        self.refused(NoChoice, 2, Player, moves, ROWS, [0, 0, -1, 0, 0])
        self.refused(NoChoice, 2, Player, moves, ROWS, [0, 0])

    def test_moves_ahead_of_rows_ahead_of_choices(self):
        self.refused(NoMoves, None, Player, [], [None], None)
        self.refused(NoMoves, None, Player, ["c", "c"], None, [None])
        self.refused(NoMoves, None, Player, None, ROWS, [None])
        self.refused(NoRow, 1, Player, ["c", "d"], [("false",), None], None)
        self.refused(NoRow, 0, Player, ["c", "d"], None, [None])

    def test_nothing_is_changed(self):
        moves, rows, chosen = ["c", "d"], list(ROWS), [1, 0]
        self.refused(NoChoice, 0, Player, moves, rows, chosen)
        self.assertEqual((moves, rows, chosen), (["c", "d"], ROWS, [1, 0]))


def holds_always(rows, at):
    """Whether a row of falses, nots, ands and ors holds; no others may be looked at."""
    word, *parts = rows[at]
    if word == "false":
        return False
    truths = [holds_always(rows, part) for part in parts]
    return {"not": not truths[0], "and": all(truths), "or": any(truths)}[word]


def does_always(player):
    for move, at in zip(player.moves(), player.chosen()):
        if holds_always(player.rows(), at):
            return move
    return player.moves()[-1]


class Plain(Asked):

    def test_each_of_one_to_four_moves(self):
        names = ["c", "d", "e", "abcdefgh"]
        for many in (1, 2, 3, 4):
            for moves in (names[:many], names[many - 1::-1]):
                for move in moves:
                    with self.subTest(moves=moves, move=move):
                        player = plain(moves, move)
                        self.assertIs(type(player), Player)
                        self.assertEqual(player.moves(), tuple(moves))
                        self.assertEqual(player.showns(), [])
                        self.assertEqual(player.top(), 0)
                        self.assertEqual(does_always(player), move)

    def test_asked_again_it_is_the_same(self):
        self.assertEqual(plain(["c", "d"], "c"), plain(("c", "d"), "c"))

    def test_by_name(self):
        self.assertEqual(plain(move="d", moves=["c", "d"]), plain(["c", "d"], "d"))

    def test_moves(self):
        for moves in [*no_lists(), [], ["c", "c"], ["c", "d", "e", "f", "g"], ["c", "D"], ["c", 1],
                      ["c", ["d"]]]:
            with self.subTest(moves=moves):
                self.refused(NoMoves, None, plain, moves, "c")

    def test_a_move_that_is_not_among_them(self):
        for move in ["e", "cd", "dc"] + no_moves_names():
            with self.subTest(move=move):
                self.refused(NoMoves, None, plain, ["c", "d"], move)
                self.refused(NoMoves, None, plain, ("c",), move)

    def test_lists_that_are_changed_behind(self):
        moves = ["c", "d"]
        player = plain(moves, "c")
        self.assertEqual(moves, ["c", "d"])
        moves[0] = "x"
        self.assertEqual(player.moves(), ("c", "d"))


if __name__ == "__main__":
    unittest.main()
