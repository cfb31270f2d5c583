"""[121], and [2](f), [3] and [4] of it: what the desk answers to each row."""

import random
import unittest

from lookthrough.alikes import alike
from lookthrough.desk import Desk
from lookthrough.endings import brought
from lookthrough.facing import opponent
from lookthrough.machines import machine_of
from lookthrough.meetings import Meeting
from lookthrough.players import plain
from lookthrough.playertexts import player_text
import plainly
from folk import CD, nots, password, till, trusting

TRUSTING = ["moves c d", "does 1 c", "shown 0 0", "choose 1"]


class Asked(unittest.TestCase):

    def tell(self, desk, name, rows, answer="ok"):
        """Tells a player row by row."""
        self.assertEqual(desk.say(f"player {name}"), "..")
        for row in rows:
            self.assertEqual(desk.say(row), "..")
        self.assertEqual(desk.say("over"), answer)

    def told(self, **players):
        desk = Desk()
        for name, player in players.items():
            self.tell(desk, name, player_text(player).split("\n")[:-1])
        return desk

    def says(self, desk, *pairs):
        for row, answer in pairs:
            with self.subTest(row=row):
                self.assertEqual(desk.say(row), answer)

    def three(self):
        return self.told(ann=trusting(0), bob=plain(CD, "d"), cyd=nots(0, 2))


class Texts(Asked):

    def test_right_ones(self):
        desk = Desk()
        self.assertEqual(desk.say(row="player ann"), "..")
        for row in TRUSTING:
            self.assertEqual(desk.say(row=row), "..")
        self.assertEqual(desk.say(row="over"), "ok")
        self.says(desk, ("last ann", "d"), ("last ann ann", "c c"), ("machine ann by c d", "c 0 1, d 1 1"))

    def test_no_form(self):
        for rows, at in (([], 0), ([""], 0), (["moves c d"], 1), (TRUSTING[1:], 0), (TRUSTING[:-1], 3),
                         (TRUSTING + ["choose 1"], 4), (TRUSTING + [""], 4), (TRUSTING[:2] + ["shown 0"], 2),
                         (TRUSTING[:1] + ["does 1 C"] + TRUSTING[2:], 1), (TRUSTING[:3] + ["choose 01"], 3),
                         (["moves  c d"], 0), (["moves c d "] + TRUSTING[1:], 0), (TRUSTING[:3] + [" choose 1"], 3),
                         (TRUSTING[:3] + ["choose 1 "], 3), (["player bob"] + TRUSTING, 0),
                         (TRUSTING[:2] + ["back"], 2),
                         (TRUSTING[:3] + ["over "], 3), ([" over"], 0), (TRUSTING[:1] + ["what"] + TRUSTING[1:], 1)):
            desk = self.told(ann=till(3))
            with self.subTest(rows=rows):
                self.tell(desk, "bob", rows, f"no row {at}")
                self.says(desk, ("last bob", "refused noname"), ("last ann", "d"))
                self.tell(desk, "ann", rows, f"no row {at}")
                self.says(desk, ("machine ann by c", "c 1, c 2, c 3, c 4, d 4"), ("back", "ok"), ("back", "none"))

    def test_refused(self):
        for rows, told in ((["moves c c", "choose"], "nomoves"), (["moves a b c d e", "choose"], "nomoves"),
                           (["moves c d", "not 0", "choose 0"], "norow"),
                           (["moves c d", "does 4 c", "choose"], "norow"),
                           (["moves c d", "shown 100 0", "choose 0"], "norow"),
                           (["moves c d", "does 1 c", "choose 0"], "nochoice"), (["moves c d", "choose"], "nochoice"),
                           (["moves c", "false", "choose 0"], "nochoice"), (["moves c d", "choose 0"], "nochoice"),
                           (["moves c d", "false", "choose 1"], "nochoice"),
                           (["moves c d", *["false"] * 2001, "choose 0"], "norow")):
            desk = self.told(ann=till(3))
            with self.subTest(rows=rows[:4]):
                self.tell(desk, "bob", rows, f"refused {told}")
                self.tell(desk, "ann", rows, f"refused {told}")
                self.says(desk, ("last bob", "refused noname"), ("last ann", "d"), ("back", "ok"), ("back", "none"))

    def test_rows_between_count_for_nothing_else(self):
        desk = self.three()
        self.assertEqual(desk.say("player ann"), "..")
        for row in ("drop bob", "back", "last ann", "player bob", "what", "", " ", "brought ann c c by c", "over over"):
            self.assertEqual(desk.say(row), "..")
        self.assertEqual(desk.say("over"), "no row 0")
        self.says(desk, ("last ann bob cyd", "d d d"), ("drop bob", "ok"), ("back", "ok"), ("last bob", "d"))

    def test_over_alone(self):
        desk = Desk()
        self.says(desk, ("over", "what"), ("..", "what"), ("ok", "what"))
        self.tell(desk, "ann", TRUSTING)
        self.says(desk, ("over", "what"), ("last ann", "d"))

    def test_one_behind_another(self):
        desk = Desk()
        self.tell(desk, "ann", ["moves c d", "false"], "no row 2")
        self.tell(desk, "ann", TRUSTING)
        self.tell(desk, "bob", player_text(till(0)).split("\n")[:-1])
        self.tell(desk, "ann", player_text(plain(CD, "c")).split("\n")[:-1])
        self.says(desk, ("last ann bob", "c d"), ("back", "ok"), ("machine ann by c d", "c 0 1, d 1 1"),
                  ("back", "ok"), ("last bob", "refused noname"), ("back", "ok"), ("last ann", "refused noname"),
                  ("back", "none"))

    def test_two_hundred_rows(self):
        for player in (nots(99, 200), opponent(CD, ["c", "d"] * 30, "d"), password(*"cdcdcdcdcdcdcdcdcdcdcdcdcdcd")):
            self.assertGreater(len(player.rows()), 180)
            desk = self.told(ann=player, bob=player)
            self.says(desk, ("last ann bob", " ".join(Meeting([player, player]).last())),
                      ("alike ann bob by c d", "alike"))
            rows = player_text(player).split("\n")[:-1]
            for at in (1, 100, 150, len(rows) - 1):
                self.tell(desk, "bob", rows[:at] + ["nothing"] + rows[at:], f"no row {at}")
                self.tell(desk, "bob", rows[:at], f"no row {at}")

    def test_names(self):
        for name in ("player", "over", "abcdefgh", "by", "moves", "back", "drop", "a"):
            desk = Desk()
            self.tell(desk, name, TRUSTING)
            self.says(desk, (f"last {name}", "d"), (f"alike {name} {name} by by", "alike"), (f"drop {name}", "ok"))


class Orders(Asked):

    def test_drop_and_back(self):
        desk = self.three()
        self.says(desk, ("drop bob", "ok"), ("drop bob", "refused noname"), ("drop dan", "refused noname"),
                  ("last bob", "refused noname"), ("back", "ok"), ("last bob", "d"), ("back", "ok"),
                  ("last cyd", "refused noname"), ("last bob", "d"), ("back", "ok"), ("back", "ok"), ("back", "none"),
                  ("back", "none"), ("last ann", "refused noname"), ("drop ann", "refused noname"))

    def test_last(self):
        desk = self.told(ann=trusting(0), bob=plain(CD, "d"), cyd=nots(0, 2), dan=plain(["run", "stay"], "stay"))
        self.says(desk, ("last ann", "d"), ("last ann bob", "d d"), ("last ann cyd", "c c"), ("last dan ann", "stay d"),
                  ("last ann ann ann ann", "c c c c"), ("last ann cyd dan bob", "d d stay d"),
                  ("last eve", "refused noname"), ("last ann eve", "refused noname"),
                  ("last eve eve eve eve", "refused noname"))

    def test_brought(self):
        desk = self.told(ann=trusting(2), bob=password("d", "c"), dan=plain(CD, "c"))
        self.says(desk, ("brought ann c c by c d", "by"), ("brought ann d c by c d", "by c c d"),
                  ("brought ann d c by d c", "by d d d"), ("brought ann c d by c d", "never"),
                  ("brought bob c c by c d", "by d"), ("brought bob c d by c d", "by d c"),
                  ("brought dan c c by c", "by"), ("brought dan d c by c", "never"),
                  ("brought ann d by by by c", "by"), ("brought ann c by by by c", "never"),
                  ("brought ann c c by w x y c", "by"), ("brought eve c c by c", "refused noname"),
                  ("brought ann x c by c d", "refused nomoves"), ("brought ann c x by c d", "refused nomoves"),
                  ("brought ann c c by c c", "refused nomoves"), ("brought ann c c by a b c d e", "refused nomoves"),
                  ("brought eve c c by c c", "refused noname"))

    def test_alike(self):
        desk = self.told(ann=trusting(1), bob=nots(1, 4), cyd=plain(CD, "c"), dan=plain(CD, "d"))
        self.says(desk, ("alike ann bob by c d", "alike"), ("alike ann ann by x", "alike"),
                  ("alike ann cyd by c d", "unlike c d"), ("alike cyd ann by d c", "unlike d d"),
                  ("alike cyd ann by c", "alike"), ("alike cyd dan by c d", "unlike"),
                  ("alike cyd eve by c", "refused noname"),
                  ("alike eve cyd by c", "refused noname"), ("alike cyd dan by c c", "refused nomoves"),
                  ("alike cyd dan by a b c d e", "refused nomoves"), ("alike eve dan by c c", "refused noname"))

    def test_machine(self):
        desk = self.told(ann=trusting(1), bob=plain(["run", "stay"], "stay"))
        self.says(desk, ("machine ann by c d", "c 1 1, c 1 2, d 2 2"), ("machine ann by d c", "c 1 1, c 2 1, d 2 2"),
                  ("machine ann by c", "c 0"), ("machine ann by x", "c 1, c 2, d 2"), ("machine bob by c", "stay 0"),
                  ("machine bob by w x y z", "stay 0 0 0 0"), ("machine eve by c", "refused noname"),
                  ("machine ann by c c", "refused nomoves"), ("machine ann by a b c d e", "refused nomoves"))

    def test_any_other_row(self):
        rows = ["", " ", "  ", "what", "player", "player ", "player ann bob", "player Ann", "player abcdefghi",
                "player 1",
                "Player ann", " player ann", "player  ann", "player ann ", "drop", "drop ", "drop ann bob", "drop Ann",
                " drop ann", "drop  ann", "drop ann ", "back ", " back", "back ann", "back back", "Back", "last",
                "last ",
                "last ann ann ann ann ann", "last Ann", "last ann ", "last  ann", " last ann", "last ann  bob",
                "last ann1",
                "brought", "brought ann c c by", "brought ann c c by ", "brought ann c c", "brought ann c by c d",
                "brought ann c c c by c", "brought ann c c to c d", "brought Ann c c by c", "brought ann C c by c",
                "brought ann c C by c", "brought ann c c by C", "brought ann c c by c D", "brought ann c c by c  d",
                "brought ann c c  by c d", "brought ann c c by c d ", " brought ann c c by c d", "brought ann c c By c",
                "alike", "alike ann", "alike ann bob", "alike ann bob by", "alike ann bob by ", "alike ann by c",
                "alike ann bob cyd by c", "alike ann bob c by c", "alike Ann bob by c", "alike ann Bob by c",
                "alike ann bob by C", "alike ann bob by c ", "alike  ann bob by c", " alike ann bob by c",
                "alike ann bob to c",
                "machine", "machine ann", "machine ann by", "machine ann by ", "machine ann c", "machine ann bob by c",
                "machine ann to c d", "machine Ann by c", "machine ann by C", "machine ann by c ", "machine  ann by c",
                " machine ann by c", "machines ann by c", "best ann", "best ann by c", "moves c d", "false", "choose",
                "ann", "over", "over ", "ok", "..", "never", "put ann", "names", "last ann,bob", "last ann-bob", "~",
                "!"]
        desk = self.three()
        for row in rows:
            with self.subTest(row=row):
                self.assertEqual(desk.say(row), "what")
        self.says(desk, ("last ann bob cyd", "d d d"), ("back", "ok"), ("back", "ok"), ("back", "ok"), ("back", "none"))

    def test_asked_again(self):
        desk = self.three()
        for row in ("last ann bob", "brought ann d c by c d", "alike ann cyd by c d", "machine ann by c d",
                    "brought ann c d by c d", "last zed", "machine ann by c c", "what else"):
            self.assertEqual(desk.say(row), desk.say(row))

    def test_two_desks(self):
        one, other = self.three(), Desk()
        self.says(other, ("last ann", "refused noname"), ("back", "none"))
        self.assertEqual(one.say("player dan"), "..")
        self.says(other, ("over", "what"), ("player ann", ".."))
        self.says(one, ("drop bob", ".."), ("over", "no row 0"), ("last bob", "d"))
        self.says(other, *[(row, "..") for row in TRUSTING], ("over", "ok"), ("last ann", "d"), ("drop ann", "ok"))
        self.says(one, ("last ann", "d"))


class HeldAgainst(Asked):

    def test_what_the_finders_tell(self):
        seed = random.Random(121)
        for _ in range(30):
            one, other = (plainly.some_player(seed, seed.randrange(3, 16), 3, ("c", "d")) for _ in range(2))
            desk = self.told(ann=one, bob=other)
            others = seed.sample(["c", "d", "x"], seed.randint(1, 3))
            by = "by " + " ".join(others)
            kind, letters = alike(one, other, others)
            self.says(desk, ("last ann bob", " ".join(Meeting([one, other]).last())),
                      ("last bob ann bob", " ".join(Meeting([other, one, other]).last())),
                      (f"alike ann bob {by}", "alike" if kind == "alike" else " ".join(["unlike", *letters])),
                      (f"machine bob {by}", ", ".join(" ".join([move, *map(str, tos)])
                                                      for move, tos in machine_of(other, others).rows())))
            for mine in CD:
                for yours in others:
                    kind, letters = brought(one, others, mine, yours)
                    self.says(desk, (f"brought ann {mine} {yours} {by}",
                                     "never" if kind == "never" else " ".join(["by", *letters])))


if __name__ == "__main__":
    unittest.main()
