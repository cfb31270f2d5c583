"""[60], [61], and [2](b), [3] and [4] of them: stands, endings, and what brings a player to them."""

import random
import unittest

from lookthrough.endings import begin, brought, endings, led, move_by, shows_never
from lookthrough.errors import NoLetter, NoMoves, NoPlayers, NoStand
from lookthrough.facing import Faced, opponent
from lookthrough.meetings import Meeting
from lookthrough.players import Player, plain
import plainly
from asking import Asked, no_players, other_objects
from folk import CD, F, FALSE, T, no_stands, nots, password, till, trusting
from things import nested, no_lists, no_moves_names


class Stands(Asked):

    def test_begin(self):
        self.assertEqual(begin(plain(CD, "c")), (0, ()))
        self.assertEqual(begin(trusting(5)), (0, (T,)))
        rows = [FALSE, ("shown", 2, 0), ("shown", 9, 0), ("shown", 1, 1), ("shown", 0, 0)]
        self.assertEqual(begin(Player(["c", "d", "e"], rows, [3, 4])), (0, (T, T, T)))
        self.assertIs(type(begin(trusting(0))), tuple)
        self.assertIs(type(begin(trusting(0))[0]), int)
        self.assertIs(type(begin(trusting(0))[1]), tuple)
        self.assertEqual(begin(player=trusting(5)), (0, (T,)))

    def test_led(self):
        player = trusting(2)
        for stand, letter, told in (((0, (T,)), "c", (1, (T,))), ((0, (T,)), "d", (1, (T,))),
                                    ((1, (T,)), "d", (2, (T,))), ((2, (T,)), "c", (2, (T,))),
                                    ((2, (T,)), "d", (2, (F,))), ((2, (F,)), "c", (2, (F,))),
                                    ((2, (F,)), "d", (2, (F,))), ((2, (T,)), "zzz", (2, (F,)))):
            with self.subTest(stand=stand, letter=letter):
                self.assertEqual(led(player, stand, letter), told)
                self.assertEqual(led(letter=letter, player=player, stand=stand), told)

    def test_stands_that_are_never_come_to(self):
        player = trusting(2)
        self.assertEqual(led(player, (0, (F,)), "c"), (1, (F,)))
        self.assertEqual(move_by(player, (0, (F,))), "d")
        self.assertEqual(move_by(player, (1, (F,))), "d")
        # The one is shown of the other: come to are never both turned at once.
        player = Player(CD, [("does", 1, "c"), ("shown", 1, 0), ("shown", 3, 1)], [2])
        self.assertEqual(led(player, (3, (F, T)), "c"), (3, (F, F)))
        self.assertEqual(led(player, (3, (T, F)), "c"), (3, (T, F)))
        self.assertEqual(led(player, (2, (F, T)), "c"), (3, (F, T)))
        self.assertEqual(led(player, (0, (F, T)), "d"), (1, (F, T)))
        self.assertEqual(led(player, (0, (T, T)), "d"), (1, (T, T)))
        self.assertEqual(led(player, (1, (T, T)), "d"), (2, (F, T)))

    def test_does_in_a_stand(self):
        # 0 does 0; then 1, 2, 3; each shown from level 0 on, all tops 0
        for k, move, letter, told in ((0, "c", "x", T), (0, "d", "x", F), (1, "x", "x", T), (1, "y", "x", F),
                                      (1, "c", "x", F), (2, "c", "c", F), (2, "x", "x", F), (3, "x", "x", F),
                                      (3, "c", "c", F)):
            player = Player(CD, [("does", k, move), ("shown", 0, 0)], [1])
            with self.subTest(k=k, move=move, letter=letter):
                self.assertEqual(led(player, (0, (T,)), letter), (0, (told,)))
                self.assertEqual(led(player, (0, (F,)), letter), (0, (F,)))

    def test_a_player_of_no_showns(self):
        for player in (plain(CD, "d"), Player(["d"], [], []), Player(["d"], [FALSE, ("shown", 9, 0)], [])):
            self.assertEqual(move_by(player, (0, ())), "d")
            self.assertEqual(led(player, (0, ()), "c"), (0, ()))
            self.refused(NoStand, {}, move_by, player, (1, ()))
            self.refused(NoStand, {}, led, player, (0, (T,)), "c")

    def test_by_name(self):
        self.assertEqual(move_by(stand=(0, (T,)), player=trusting(2)), "c")
        self.assertEqual(led(stand=(0, (T,)), letter="d", player=trusting(0)), (0, (F,)))

    def test_no_player(self):
        for player in no_players():
            with self.subTest(player=player):
                self.refused(NoPlayers, {}, begin, player)
                self.refused(NoPlayers, {}, move_by, player, (0, (T,)))
                self.refused(NoPlayers, {}, move_by, player, None)
                self.refused(NoPlayers, {}, led, player, (0, (T,)), "c")
                self.refused(NoPlayers, {}, led, player, None, None)

    def test_no_stand(self):
        rows = [FALSE, ("shown", 2, 0), ("shown", 4, 1)]
        for player in (trusting(2), Player(CD, rows, [2])):
            for stand in no_stands(player):
                with self.subTest(stand=stand):
                    self.refused(NoStand, {}, move_by, player, stand)
                    self.refused(NoStand, {}, led, player, stand, "c")
                    self.refused(NoStand, {}, led, player, stand, None)

    def test_no_letter(self):
        for letter in no_moves_names() + other_objects():
            with self.subTest(letter=letter):
                self.refused(NoLetter, {"at": 0}, led, trusting(2), (2, (T,)), letter)

    def test_long_chains(self):
        player = nots(99, 1500)
        self.assertEqual(move_by(player, (0, (T,))), "c")
        self.assertEqual(move_by(player, (99, (F,))), "d")
        self.assertEqual(led(player, (98, (T,)), "d"), (99, (T,)))
        self.assertEqual(led(player, (99, (T,)), "d"), (99, (F,)))
        self.assertEqual(led(player, (99, (T,)), "c"), (99, (T,)))
        rows = [FALSE] + [("shown", 0, at) for at in range(1999)]
        player = Player(CD, rows, [1999])
        self.assertEqual(begin(player), (0, (T,) * 1999))
        self.assertEqual(led(player, begin(player), "c"), (0, (F,) + (T,) * 1998))
        self.assertEqual(led(player, (0, (F,) * 7 + (T,) * 1992), "c"), (0, (F,) * 8 + (T,) * 1991))

    def test_held_against_a_plain_one(self):
        seed = random.Random(60)
        for _ in range(120):
            moves = ("c", "d", "e", "f")[:seed.choice([1, 2, 2, 3, 4])]
            player = plainly.some_player(seed, seed.randrange(1, 20), seed.choice([0, 1, 3]), moves)
            for stand in plainly.forms(player, 64):
                self.assertEqual(move_by(player, stand), plainly.move_in(player, stand))
                for letter in ("c", "d", "x"):
                    with self.subTest(rows=player.rows(), stand=stand, letter=letter):
                        self.assertEqual(led(player, stand, letter), plainly.led_from(player, stand, letter))

    def test_a_walk_tells_what_is_shown(self):
        seed = random.Random(61)
        for _ in range(60):
            player = plainly.some_player(seed, seed.randrange(1, 20), seed.choice([0, 1, 3, 99]), ("c", "d", "e"))
            letters = [seed.choice("cdx") for _ in range(seed.choice([3, 8, 120]))]
            faced, stand = Faced(player, letters, "c"), begin(player)
            for level, letter in enumerate(letters):
                self.assertEqual(move_by(player, stand), faced.move_at(level))
                if level in (1, 2, 5, 100):
                    self.assertEqual(stand, plainly.stand_of(player, letters[:level]))
                stand = led(player, stand, letter)


class Endings(Asked):

    def test_small_ones(self):
        for player, others, told in (
                (plain(CD, "c"), CD, "cc cd"), (plain(CD, "d"), ["d", "x", "c"], "dd dx dc"),
                (trusting(0), CD, "cc dc dd"), (trusting(0), ["d", "c"], "cc dd dc"),
                (trusting(0), ["c"], "cc"), (trusting(0), ["d"], "dd"), (trusting(0), ["x", "y"], "dx dy"),
                (trusting(99), CD, "cc dc dd"), (till(0), CD, "dc dd"), (till(99), ["d"], "dd"),
                (Player(["d", "c"], [("does", 1, "d"), ("shown", 0, 0), ("not", 1), ("shown", 3, 2)], [3]), CD,
                 "dc dd cc cd")):
            with self.subTest(rows=player.rows(), others=others):
                pairs = endings(player, others)
                in_order = [(mine, yours) for mine in player.moves() for yours in others
                            if mine + yours in told.split()]
                self.assertEqual(pairs, in_order)
                self.assertIs(type(pairs), list)
                self.assertTrue(all(type(pair) is tuple for pair in pairs))

    def test_the_order(self):
        self.assertEqual(endings(trusting(0), CD), [("c", "c"), ("d", "c"), ("d", "d")])
        self.assertEqual(endings(trusting(0), ["d", "c"]), [("c", "c"), ("d", "d"), ("d", "c")])
        turned = Player(["d", "c"], [("does", 1, "c"), ("shown", 0, 0), ("not", 1)], [2])
        self.assertEqual(endings(turned, CD), [("d", "c"), ("d", "d"), ("c", "c")])
        self.assertEqual(endings(turned, ["d", "c"]), [("d", "d"), ("d", "c"), ("c", "c")])

    def test_by_name_and_tuples(self):
        self.assertEqual(endings(others=("c", "d"), player=trusting(0)), [("c", "c"), ("d", "c"), ("d", "d")])

    def test_the_list_is_the_askers_own(self):
        player, others = trusting(0), ["c", "d"]
        told = endings(player, others)
        told.append(("x", "y"))
        told[0] = None
        endings(player, ["d", "c"])
        brought(player, ["x"], "c", "x")
        self.assertEqual(endings(player, others), [("c", "c"), ("d", "c"), ("d", "d")])
        self.assertEqual(others, ["c", "d"])

    def test_no_player(self):
        for player in no_players():
            with self.subTest(player=player):
                self.refused(NoPlayers, {}, endings, player, CD)
                self.refused(NoPlayers, {}, endings, player, None)

    def test_no_moves(self):
        for others in [*no_lists(), [], (), ["c", "c"], ["c", "d", "e", "f", "g"], ["c", "D"], [None], [["c"]],
                       *other_objects()]:
            with self.subTest(others=others):
                self.refused(NoMoves, {}, endings, trusting(0), others)

    def test_near_ninety_nine(self):
        for k in (97, 98, 99):
            for player in (trusting(k), nots(k, 1000)):
                self.assertEqual(endings(player, CD), [("c", "c"), ("d", "c"), ("d", "d")])


class Brought(Asked):

    def test_small_ones(self):
        for player, others, mine, yours, told in (
                (plain(CD, "c"), CD, "c", "d", ("row", ())),
                (plain(CD, "c"), CD, "d", "d", ("never", ((0, ()),))),
                (trusting(0), CD, "c", "c", ("row", ())),
                (trusting(0), CD, "d", "c", ("row", ("d",))),
                (trusting(0), CD, "d", "d", ("row", ())),
                (trusting(0), CD, "c", "d", ("never", ((0, (F,)), (0, (T,))))),
                (trusting(0), ["c"], "d", "c", ("never", ((0, (T,)),))),
                (trusting(0), ["d", "c"], "c", "d", ("never", ((0, (F,)), (0, (T,))))),
                (trusting(2), CD, "d", "c", ("row", ("c", "c", "d"))),
                (trusting(2), ["d", "c"], "d", "c", ("row", ("d", "d", "d"))),
                (trusting(2), ["x", "c", "d"], "d", "c", ("row", ("x", "x", "x"))),
                (trusting(2), ["c", "d", "x"], "d", "c", ("row", ("c", "c", "d"))),
                (trusting(2), ["c", "x", "d"], "d", "c", ("row", ("c", "c", "x"))),
                (trusting(2), CD, "c", "d",
                 ("never", ((0, (T,)), (1, (T,)), (2, (F,)), (2, (T,))))),
                (till(2), CD, "c", "c",
                 ("never", ((0, (T,)), (1, (T,)), (2, (F,)), (2, (T,)))))):
            with self.subTest(rows=player.rows(), others=others, mine=mine, yours=yours):
                answer = brought(player, others, mine, yours)
                self.assertEqual(answer, told)
                self.assertEqual(repr(answer), repr(told))
                self.assertEqual(brought(player, tuple(others), mine, yours), told)
                self.assertEqual(brought(yours=yours, mine=mine, others=others, player=player), told)

    def test_a_password(self):
        for letters in (("c",), ("d",), ("d", "c"), ("c", "d", "d"), ("x", "d", "c", "x")):
            player = password(*letters)
            for others in (["c", "d", "x"], ["x", "d", "c"]):
                self.assertEqual(brought(player, others, "d", "c")[0], "row")
                kind, told = brought(player, others, "c", "c")
                # The tail c does what letters at the end ask, where they ask for c.
                stripped = list(letters)
                while stripped and stripped[-1] == "c":
                    stripped.pop()
                with self.subTest(letters=letters, others=others):
                    self.assertEqual((kind, told), ("row", tuple(stripped)))
            if "x" in letters:
                self.assertEqual(brought(player, CD, "c", "c")[0], "never")

    def test_the_last_level_that_is_looked_at(self):
        player = password(*["c"] * 60, "d")
        self.assertEqual(brought(player, CD, "c", "c"), ("row", ("c",) * 60 + ("d",)))
        self.assertEqual(brought(player, CD, "c", "d"), ("row", ("c",) * 60))
        self.assertEqual(brought(player, CD, "d", "c"), ("row", ()))
        self.assertEqual(brought(player, ["d", "c"], "d", "c"), ("row", ()))
        self.assertEqual(brought(player, ["c"], "c", "c")[0], "never")
        self.assertEqual(len(brought(player, ["c"], "c", "c")[1]), 62)

    def test_near_ninety_nine(self):
        for k in (97, 98, 99):
            for player in (trusting(k), nots(k, 1500)):
                self.assertEqual(brought(player, CD, "d", "c"), ("row", ("c",) * k + ("d",)))
                self.assertEqual(brought(player, ["d", "c"], "d", "c"), ("row", ("d",) * (k + 1)))
                self.assertEqual(brought(player, CD, "d", "d"), ("row", ()))
                stands = tuple((n, (T,)) for n in range(k)) + ((k, (F,)), (k, (T,)))
                self.assertEqual(brought(player, CD, "c", "d"), ("never", stands))
                self.assertIs(shows_never(player, CD, "c", "d", stands), True)

    def test_asked_again(self):
        player = trusting(2)
        row, never = brought(player, CD, "d", "c"), brought(player, CD, "c", "d")
        endings(player, CD).clear()
        brought(player, ["d", "c"], "d", "c")
        brought(trusting(1), CD, "d", "c")
        shows_never(player, CD, "c", "d", never[1])
        self.assertEqual(brought(player, CD, "d", "c"), row)
        self.assertEqual(brought(player, CD, "c", "d"), never)

    def test_others_that_are_changed_behind(self):
        others = ["c", "d"]
        told = brought(trusting(0), others, "d", "c")
        self.assertEqual(others, ["c", "d"])
        others[1] = "x"
        self.assertEqual(told, ("row", ("d",)))

    def refusals(self, asked, *behind):
        """What brought and shows_never refuse likewise."""
        player = trusting(0)
        for thing in no_players():
            self.refused(NoPlayers, {}, asked, thing, CD, "c", "d", *behind)
            self.refused(NoPlayers, {}, asked, thing, None, None, None, *behind)
        for others in [*no_lists(), [], ["c", "c"], ["c", "d", "e", "f", "g"], ["c", "D"], [None], *other_objects()]:
            with self.subTest(others=others):
                self.refused(NoMoves, {}, asked, player, others, "c", "c", *behind)
        for thing in no_moves_names() + ["e", "x", "cd", *other_objects()]:
            with self.subTest(thing=thing):
                self.refused(NoMoves, {}, asked, player, CD, thing, "c", *behind)
                self.refused(NoMoves, {}, asked, player, CD, "c", thing, *behind)
                self.refused(NoMoves, {}, asked, player, CD, thing, thing, *behind)
        # A move of others that isn't its own, and one of its own that isn't of others.
        self.refused(NoMoves, {}, asked, player, ["c", "x"], "x", "c", *behind)
        self.refused(NoMoves, {}, asked, player, ["c", "x"], "c", "d", *behind)
        self.refused(NoMoves, {}, asked, player, ["x", "y"], "x", "x", *behind)

    def test_refused(self):
        self.refusals(brought)

    def test_shows_never_refuses_likewise(self):
        stands = brought(trusting(0), CD, "c", "d")[1]
        for behind in (stands, (), None, [None], "c"):
            self.refusals(shows_never, behind)


class ShowsNever(Asked):

    def setUp(self):
        self.player = trusting(2)
        self.stands = brought(self.player, CD, "c", "d")[1]

    def shows(self, stands, mine="c", yours="d", others=("c", "d")):
        return shows_never(self.player, others, mine, yours, stands)

    def test_the_stands_of_never(self):
        self.assertIs(self.shows(self.stands), True)
        self.assertIs(shows_never(stands=self.stands, yours="d", mine="c", others=CD, player=self.player), True)

    def test_in_any_order_and_twice(self):
        for stands in (self.stands[::-1], self.stands[2:] + self.stands[:2], self.stands * 2,
                       self.stands + self.stands[:1], self.stands[1:2] + self.stands):
            self.assertIs(self.shows(stands), True)

    def test_one_left_out(self):
        for at in range(len(self.stands)):
            self.assertIs(self.shows(self.stands[:at] + self.stands[at + 1:]), False)
        self.assertIs(self.shows(()), False)
        self.assertIs(self.shows(self.stands[:1]), False)

    def test_more_that_are_never_come_to(self):
        # From (1, (F,)) and (0, (F,)) the letters lead on, so both are asked for where the first is.
        self.assertIs(self.shows(self.stands + ((1, (F,)),)), True)
        self.assertIs(self.shows(self.stands + ((1, (F,)), (0, (F,)))), True)
        self.assertIs(self.shows(self.stands + ((0, (F,)),)), False)

    def test_one_that_rests_so(self):
        # (2, (T,)) rests by c and does c; (2, (F,)) rests by both and does d.
        self.assertIs(self.shows(self.stands, "c", "c"), False)
        self.assertIs(self.shows(self.stands, "d", "c"), False)
        self.assertIs(self.shows(self.stands, "d", "d"), False)
        # One that is never come to counts, too.
        player = Player(CD, [("does", 1, "c"), ("not", 0), ("or", 0, 1), ("shown", 0, 2)], [3])
        self.assertEqual(brought(player, CD, "d", "c"), ("never", ((0, (T,)),)))
        self.assertIs(shows_never(player, CD, "d", "c", ((0, (T,)),)), True)
        self.assertIs(shows_never(player, CD, "d", "c", ((0, (T,)), (0, (F,)))), False)
        self.assertIs(shows_never(player, CD, "c", "c", ((0, (T,)),)), False)

    def test_one_that_does_it_but_does_not_rest(self):
        # Ahead of the top nothing rests, and (2, (T,)) is led on by d.
        self.assertEqual([move_by(self.player, stand) for stand in self.stands], ["c", "c", "d", "c"])
        self.assertIs(self.shows(self.stands, "c", "d"), True)

    def test_letters_of_others_alone(self):
        stands = ((0, (T,)), (1, (T,)), (2, (T,)))
        self.assertEqual(brought(self.player, ["c"], "d", "c"), ("never", stands))
        self.assertIs(self.shows(stands, "d", "c", ["c"]), True)
        self.assertIs(self.shows(stands, "d", "c", ["c", "d"]), False)
        self.assertIs(self.shows(stands, "d", "c", ["x", "c"]), False)

    def test_one_not_of_the_form(self):
        for stand in no_stands(self.player):
            with self.subTest(stand=stand):
                self.assertIs(self.shows(self.stands + (stand,)), False)
                self.assertIs(self.shows((stand,) + self.stands), False)
                self.assertIs(self.shows((stand,)), False)

    def test_numbers_for_truths(self):
        for at, (n, held) in enumerate(self.stands):
            stand = (n, tuple(int(truth) for truth in held))
            self.assertEqual(stand, self.stands[at])
            self.assertIs(self.shows(self.stands[:at] + (stand,) + self.stands[at + 1:]), False)
        self.assertIs(self.shows(((False, (T,)),) + self.stands[1:]), False)

    def test_of_anything(self):
        for thing in [*no_lists(), [], (), list(self.stands), dict.fromkeys(self.stands), (self.stands,), (0, (T,)),
                      *other_objects(), nested(30, lambda thing: (thing,)), nested(30, lambda thing: [thing])]:
            with self.subTest(thing=thing):
                self.assertIs(self.shows(thing), False)

    def test_of_another_player(self):
        for player in (trusting(1), trusting(3), plain(CD, "c")):
            self.assertIs(shows_never(player, CD, "c", "d", self.stands), False)


class HeldAgainstAPlainOne(unittest.TestCase):

    def some(self, many, seed):
        """Players, and others' moves by which these come to few stands, with them and their first letters."""
        while many:
            moves = ("c", "d", "e", "f")[:seed.choice([1, 2, 2, 3, 4])]
            player = plainly.some_player(seed, seed.randrange(1, 25), seed.choice([0, 1, 2, 3]), moves)
            others = seed.sample(["c", "d", "e", "x"], seed.choice([1, 2, 2, 3]))
            if len(player.showns()) <= 5:
                many -= 1
                yield player, others, plainly.come_to(player, others)

    def test_endings_brought_and_shows_never(self):
        for player, others, found in self.some(120, random.Random(62)):
            pairs = endings(player, others)
            for mine in player.moves():
                for yours in others:
                    with self.subTest(rows=player.rows(), others=others, mine=mine, yours=yours):
                        let = [letters for letters in found.values()
                               if plainly.last_facing(player, letters, yours) == mine]
                        answer, stands = brought(player, others, mine, yours), tuple(found)
                        self.assertEqual((mine, yours) in pairs, bool(let))
                        if let:
                            self.assertEqual(answer, ("row", let[0]))
                        else:
                            self.assertEqual(answer, ("never", tuple(sorted(stands))))
                        # Never both.
                        self.assertIs(shows_never(player, others, mine, yours, stands), not let)

    def test_the_first_of_all_words(self):
        for player, others, _ in self.some(60, random.Random(63)):
            for mine in player.moves():
                for yours in others:
                    told = [word for word in plainly.words(others, 3)
                            if plainly.last_facing(player, word, yours) == mine]
                    kind, letters = brought(player, others, mine, yours)
                    with self.subTest(rows=player.rows(), others=others, mine=mine, yours=yours):
                        if told:
                            self.assertEqual((kind, letters), ("row", told[0]))
                        elif kind == "row":
                            self.assertGreater(len(letters), 3)

    def test_opponents(self):
        # [2](b): an opponent of the letters brings it about whoever it meets; of never none does, however it looks.
        seed = random.Random(64)
        for player, others, _ in self.some(60, seed):
            pairs = endings(player, others)
            for mine, yours in pairs:
                kind, letters = brought(player, others, mine, yours)
                self.assertEqual(kind, "row")
                self.assertEqual(Meeting([player, opponent(others, letters, yours)]).last(), (mine, yours))
                self.assertEqual(Faced(player, letters, yours).last(), mine)
            for _ in range(6):
                other = plainly.some_player(seed, seed.randrange(1, 25), 3, tuple(others))
                self.assertIn(Meeting([player, other]).last(), pairs)
                self.assertIn(Meeting([other, player]).last()[::-1], pairs)


if __name__ == "__main__":
    unittest.main()
