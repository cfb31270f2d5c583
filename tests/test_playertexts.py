"""[40], and [2](f), [3] and [4] of it: texts of players."""

import random
import unittest

from lookthrough.errors import NoChoice, NoMoves, NoRow, NoText
from lookthrough.players import Player, plain
from lookthrough.playertexts import player_text, read_player
import plainly
from asking import Asked, other_objects
from things import nested, no_lists

# Each kind of row, with the least and the greatest numbers that it may have here.
ROWS = [("false",), ("does", 0, "c"), ("does", 3, "abcdefgh"), ("not", 0), ("and", 2, 0), ("or", 1, 4),
        ("shown", 0, 1), ("shown", 99, 6), ("or", 6, 7), ("not", 8), ("shown", 10, 9)]
TEXT = """moves c d e
false
does 0 c
does 3 abcdefgh
not 0
and 2 0
or 1 4
shown 0 1
shown 99 6
or 6 7
not 8
shown 10 9
choose 10 9
"""
PLAYER = Player(["c", "d", "e"], ROWS, [10, 9])


class Written(unittest.TestCase):

    def test_each_kind_of_row(self):
        self.assertEqual(player_text(PLAYER), TEXT)
        self.assertIs(type(player_text(PLAYER)), str)

    def test_no_row(self):
        self.assertEqual(player_text(Player(["c"], [], [])), "moves c\nchoose\n")
        self.assertEqual(player_text(Player(["choose"], [("false",)], [])), "moves choose\nfalse\nchoose\n")

    def test_a_blank_between_parts(self):
        rows = [("false",), ("does", 1, "c"), ("shown", 0, 1), ("not", 0), ("or", 2, 0)]
        self.assertEqual(player_text(Player(["c", "d", "e"], rows, [2, 4])),
                         "moves c d e\nfalse\ndoes 1 c\nshown 0 1\nnot 0\nor 2 0\nchoose 2 4\n")

    def test_by_name(self):
        self.assertEqual(player_text(player=PLAYER), TEXT)
        self.assertEqual(read_player(text=TEXT), PLAYER)

    def test_asked_again(self):
        text = player_text(PLAYER)
        player_text(plain(["c", "d"], "c"))
        read_player("moves c\nchoose\n")
        self.assertEqual(player_text(PLAYER), text)


class Read(unittest.TestCase):

    def test_each_kind_of_row(self):
        player = read_player(TEXT)
        self.assertIs(type(player), Player)
        self.assertEqual(player, PLAYER)
        self.assertEqual((player.moves(), player.rows(), player.chosen()),
                         (("c", "d", "e"), tuple(ROWS), (10, 9)))
        for row in player.rows():
            self.assertIs(type(row), tuple)
            for part in row[1:]:
                self.assertIn(type(part), (int, str))

    def test_no_row(self):
        self.assertEqual(read_player("moves c\nchoose\n"), Player(["c"], [], []))

    def test_moves_that_are_words_of_rows(self):
        moves = ["moves", "choose", "false", "shown"]
        rows = [("does", 1, "choose"), ("does", 0, "not"), ("shown", 1, 0)]
        player = Player(moves, rows, [2, 2, 2])
        self.assertEqual(player_text(player), "moves moves choose false shown\ndoes 1 choose\ndoes 0 not\n"
                                              "shown 1 0\nchoose 2 2 2\n")
        self.assertEqual(read_player(player_text(player)), player)

    def test_two_thousand_rows(self):
        rows = [("false",), ("shown", 99, 0)] + [("and", at, 1) for at in range(1, 1999)]
        player = Player(["c", "d"], rows, [1999])
        text = player_text(player)
        self.assertEqual(text.count("\n"), 2002)
        self.assertTrue(text.endswith("and 1998 1\nchoose 1999\n"))
        self.assertEqual(read_player(text), player)

    def test_written_and_read(self):
        seed = random.Random(40)
        for _ in range(150):
            moves = ("c", "d", "e", "abcdefgh")[:seed.randrange(1, 5)]
            player = plainly.some_player(seed, seed.randrange(1, 60), 99, moves)
            text = player_text(player)
            self.assertEqual(read_player(text), player)
            self.assertEqual(player_text(read_player(text)), text)


class Form(Asked):

    def no_text(self, row, text):
        with self.subTest(text=text):
            self.refused(NoText, {"row": row}, read_player, text)

    def test_no_text(self):
        for text in [thing for thing in no_lists() if not isinstance(thing, str)]:
            self.no_text(0, text)
        for text in [[], [TEXT], (TEXT,), {TEXT: TEXT}, PLAYER, *other_objects(),
                     nested(30, lambda thing: [thing])]:
            self.no_text(0, text)

    def test_the_first_row(self):
        for row in ("", "moves", "move c", "Moves c", " moves c", "moves c ", "moves  c", "moves c  d", "moves ",
                    "moves C", "moves c1", "moves c,d", "moves abcdefghi", "moves c 1", "moves c_d", "c d",
                    "false", "choose", "choose 0", "moves: c", "movesc"):
            self.no_text(0, row + "\nfalse\nchoose 0\n")
            self.no_text(0, row)
            self.no_text(0, row + "\n")

    def test_rows_between(self):
        wrong = ["", " ", "false ", " false", "false 0", "False", "falsee", "true", "moves c", "moves c d",
                 "does", "does 0", "does c", "does 0 c d", "does 0 c 0", "does c 0", "does 0 0", "does 00 c",
                 "does -1 c", "does +1 c", "does 1.0 c", "does 12345 c", "does 0 C", "does 0 abcdefghi",
                 "does  0 c", "does 0  c", "does 0 c ", " does 0 c", "does 0 ", "does  c", "does x c",
                 "not", "not 0 0", "not c", "not 01", "not 00", "not -0", "not -1", "not 10000", "not  0",
                 "not 0 ", "not 0x0", "not 1_0", "not true",
                 "and 0", "and 0 0 0", "and 0 c", "and c 0", "and 0 01", "and 00 0", "and 0  0", "and 0 0 ",
                 "or 0", "or 0 0 0", "or 0 c", "or c 0", "or 0 01", "or 10000 0", "or 0 10000", "or",
                 "shown 0", "shown 0 0 0", "shown c 0", "shown 0 c", "shown 00 0", "shown 0 00", "shown 012 0",
                 "shown 0 12345", "shown", "shown  0 0", "xor 0 0", "choose0", "chose 0", "and0 0", "1", "0 0"]
        for row in wrong:
            self.no_text(1, f"moves c d\n{row}\nchoose 0\n")
            self.no_text(3, f"moves c d\nfalse\nnot 0\n{row}\nshown 1 1\nchoose 0\n")
            self.no_text(2, f"moves c d\nfalse\n{row}\n")
            if row:
                self.no_text(2, f"moves c d\nfalse\n{row}")

    def test_choose(self):
        for row in ("choose ", "choose  0", "choose 0  0", "choose 0 ", " choose 0", "choose c", "choose 00",
                    "choose 0 01", "choose 12345", "choose -1", "choose 0 c", "choose 0 0 x", "Choose 0"):
            self.no_text(2, f"moves c d\nfalse\n{row}\n")
            self.no_text(2, f"moves c d\nfalse\n{row}")

    def test_behind_choose(self):
        for row in ("", " ", "false", "not 0", "choose", "choose 0", "moves c", "x"):
            self.no_text(3, f"moves c d\nfalse\nchoose 0\n{row}\n")
            self.no_text(3, f"moves c d\nfalse\nchoose 0\n{row}\nfalse\nx\n")
            if row:
                self.no_text(3, f"moves c d\nfalse\nchoose 0\n{row}")

    def test_the_last_row_lacks(self):
        self.no_text(0, "")
        self.no_text(1, "moves c\n")
        self.no_text(2, "moves c\nfalse\n")
        self.no_text(12, TEXT[:TEXT.index("choose")])

    def test_the_last_line_feed_lacks(self):
        self.no_text(1, "moves c")
        self.no_text(2, "moves c\nfalse")
        self.no_text(2, "moves c\nchoose")
        self.no_text(3, "moves c d\nfalse\nchoose 0")
        self.no_text(13, TEXT[:-1])

    def test_a_last_row_without_its_line_feed_is_looked_at(self):
        self.no_text(0, "move c")
        self.no_text(1, "moves c\nfals")
        self.no_text(1, "moves c\nfalse ")
        self.no_text(2, "moves c d\nfalse\nchoose x")
        self.no_text(2, "moves c\nchoose\nx")

    def test_each_end_of_a_text(self):
        for many in range(len(TEXT)):
            text = TEXT[:many]
            rows = text.split("\n")
            # What is there of the last row is so by form just where it may stand as another row.
            last = rows[-1]
            is_so = last == "" or last in TEXT.split("\n") or last in (
                "moves c", "moves c d", *[f"does 3 {'abcdefgh'[:at]}" for at in range(1, 9)], "shown 9 6",
                "shown 1 9", "choose", "choose 1", "choose 10")
            with self.subTest(text=text):
                told = len(rows) if is_so and last else len(rows) - 1
                self.refused(NoText, {"row": told}, read_player, text)

    def test_the_first_is_told(self):
        self.no_text(0, "move c\nfals\nchoose x\nx")
        self.no_text(1, "moves c\nfals\nchoose x\nx")
        self.no_text(2, "moves c\nfalse\nchoose x\nx")
        self.no_text(4, "moves c\nfalse\ndoes 9 c\nshown 999 999\nx\nchoose\n")


class AsPlayerRefuses(Asked):

    def test_moves(self):
        for row in ("moves c c", "moves c d e f g", "moves c d c", "moves" + " c" * 900):
            self.refused(NoMoves, {}, read_player, f"{row}\nfalse\nchoose 0\n")

    def test_rows(self):
        for row in ("does 4 c", "does 9999 c", "not 1", "not 9999", "and 0 1", "and 1 0", "or 2 0", "shown 100 0",
                    "shown 0 1", "shown 9999 9999"):
            with self.subTest(row=row):
                self.refused(NoRow, {"at": 1}, read_player, f"moves c d\nfalse\n{row}\nchoose 0\n")
        self.refused(NoRow, {"at": 0}, read_player, "moves c d\nnot 0\nfalse\nchoose 0\n")

    def test_too_many_rows(self):
        self.refused(NoRow, {"at": 2000}, read_player, "moves c d\n" + "false\n" * 2001 + "choose 0\n")
        self.refused(NoRow, {"at": 1999}, read_player,
                     "moves c d\n" + "false\n" * 1999 + "not 1999\nfalse\nchoose 0\n")
        self.refused(NoText, {"row": 2003}, read_player, "moves c d\n" + "false\n" * 2001 + "choose 0\nx\n")

    def test_chosen(self):
        for row, at in (("choose", 0), ("choose 0", 1), ("choose 2", 0), ("choose 0 1", 1), ("choose 0 9999", 1),
                        ("choose 0 0 0", 2), ("choose 1 0", 0), ("choose 0 0 0 0 0", 2)):
            with self.subTest(row=row):
                self.refused(NoChoice, {"at": at}, read_player, f"moves c d e\nfalse\ndoes 0 c\n{row}\n")

    def test_of_several_the_first(self):
        self.refused(NoMoves, {}, read_player, "moves c c\nnot 0\nchoose 9\n")
        self.refused(NoRow, {"at": 0}, read_player, "moves c d\nnot 0\nchoose 9\n")
        self.refused(NoText, {"row": 3}, read_player, "moves c c\nnot 0\nchoose 9\nx\n")
        self.refused(NoText, {"row": 3}, read_player, "moves c c\nnot 0\nchoose 9")


if __name__ == "__main__":
    unittest.main()
