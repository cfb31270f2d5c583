"""[110], and [2](f), [3] and [4] of it: deeds, questions, what is kept, made and logged, and twins."""

import random
import unittest

from lookthrough.alikes import alike
from lookthrough.endings import brought
from lookthrough.errors import NoDeed, NoMoves, NoName, NoPlayers, SightError
from lookthrough.house import House
from lookthrough.machines import Machine, machine_of
from lookthrough.meetings import Meeting
from lookthrough.players import Player, plain
from lookthrough.worths import Table, best
import plainly
from asking import Asked, no_others, no_players, other_objects
from folk import CD, nots, till, trusting
from things import nested, no_lists, no_moves_names, some_player

DILEMMA = {("c", "c"): (3, 3), ("c", "d"): (0, 5), ("d", "c"): (5, 0), ("d", "d"): (1, 1)}


def table():
    return Table(CD, CD, DILEMMA)


def housed(**players):
    house = House()
    for name, player in players.items():
        house.do(("put", name, player))
    return house


def three():
    return housed(ann=trusting(0), bob=plain(CD, "d"), cyd=nots(0, 2))


def questions(names):
    """Questions of all five kinds over these names."""
    asked = [("last", (one, other)) for one in names for other in names]
    asked += [("last", (name,)) for name in names] + [("last", (names[0],) * 4)]
    asked += [("brought", name, ("c", "d"), mine, yours) for name in names for mine in CD for yours in CD]
    asked += [("alike", one, other, ("c", "d")) for one in names for other in names]
    asked += [("machine", name, others) for name in names for others in (("c", "d"), ("d", "x"))]
    return asked + [("best", name, table()) for name in names]


def answer_of(players, question):
    """What stands behind a question, of players by names."""
    word, *parts = question
    if word == "last":
        return Meeting([players[name] for name in parts[0]]).last()
    if word == "brought":
        return brought(players[parts[0]], *parts[1:])
    if word == "alike":
        return alike(players[parts[0]], players[parts[1]], parts[2])
    if word == "machine":
        return machine_of(players[parts[0]], parts[1])
    return best(parts[1], players[parts[0]])


def listed(thing):
    """Lists for tuples, however deep."""
    return [listed(part) for part in thing] if isinstance(thing, tuple) else thing


def no_deeds():
    """Things that are no deed."""
    player = plain(CD, "c")
    wrong = [("put", "ann"), ("put", "ann", player, player), ("puts", "ann", player), ("drop", "ann", player),
             ("drop",), ("put",), ("drop", "ann", None), ("drop", "ann", "bob"), ("drop", "ann", None, None),
             ("ann", player), ("put", player, "ann"),
             ("Put", "ann", player), (None, "ann", player), (player, "ann", player), (("put",), "ann", player),
             "put ann",
             (), [], [("put", "ann", player)], {"put": "ann"}, ("drop", ("ann",)), (0, "ann"), (["drop"], "ann")]
    wrong += [("put", name, player) for name in no_moves_names() + other_objects()]
    wrong += [("drop", name) for name in no_moves_names() + other_objects()]
    wrong += [("put", "ann", thing) for thing in no_players()]
    return wrong + no_lists() + other_objects() + [nested(30, lambda thing: [thing]),
                                                   nested(30, lambda thing: (thing,))]


def no_questions():
    """Things that have the form of no question, whoever is there."""
    wrong = [("last",), ("last", ("ann",), ("bob",)), ("last", "ann"), ("last", ()), ("last", []),
             ("last", ("ann",) * 5), ("last", {"ann": 1}), ("lasts", ("ann",)), ("last", "ann", "bob"),
             ("brought", "ann", CD, "c"), ("brought", "ann", CD, "c", "c", "c"), ("brought",),
             ("alike", "ann", "bob"), ("alike", "ann", "bob", CD, CD), ("alike", "ann", CD),
             ("alike", ("ann", "bob"), CD),
             ("machine", "ann"), ("machine", "ann", CD, CD), ("machine", CD, "ann"), ("machine",),
             ("best", "ann"), ("best", "ann", table(), table()), ("best", table(), "ann"), ("best",),
             ("put", "ann", trusting(0)), ("drop", "ann"), ("stood", table(), "c", "c"), ("endings", "ann", CD),
             (), [], "last", "last ann", (None, ("ann",)), (("last",), ("ann",)), (["last"], ["ann"]),
             (trusting(0), ("ann",)), ("Last", ("ann",)), {"last": ("ann",)}, (0, "ann", CD),
             ("last", ("ann", ("bob",)))]
    for name in no_moves_names() + other_objects():
        wrong += [("last", (name,)), ("last", ("ann", name)), ("brought", name, CD, "c", "c"), ("machine", name, CD),
                  ("alike", name, "ann", CD), ("alike", "ann", name, CD), ("best", name, table())]
    wrong += [("best", "ann", thing) for thing in [*no_lists(), [], (), DILEMMA, (CD, CD, DILEMMA), *other_objects()]
              if not isinstance(thing, Table)]
    return wrong + no_lists() + other_objects() + [nested(30, lambda thing: [thing]),
                                                   nested(30, lambda thing: (thing,))]


class Deeds(Asked):

    def test_put_and_drop(self):
        house = House()
        self.assertEqual(house.names(), [])
        for deed in (("put", "bob", till(1)), ["put", "ann", trusting(0)], ("put", "cyd", till(2))):
            self.assertIsNone(house.do(deed))
        self.assertEqual(house.names(), ["ann", "bob", "cyd"])
        self.assertEqual(house.player("ann"), trusting(0))
        self.assertIsNone(house.do(deed=("put", "ann", till(3))))
        self.assertEqual(house.player(name="ann"), till(3))
        self.assertEqual(house.names(), ["ann", "bob", "cyd"])
        self.assertIsNone(house.do(["drop", "bob"]))
        self.assertIsNone(house.do(("drop", "cyd")))
        self.assertEqual(house.names(), ["ann"])
        house.do(("put", "abcdefgh", till(0)))
        self.assertEqual(house.names(), ["abcdefgh", "ann"])

    def test_no_deed(self):
        for deed in no_deeds():
            house = three()
            with self.subTest(deed=deed):
                self.refused(NoDeed, {"at": 0}, house.do, deed)
                self.assertEqual(house.names(), ["ann", "bob", "cyd"])
                self.assertTrue(house.back())
                self.assertEqual(house.names(), ["ann", "bob"])

    def test_nobody_to_drop(self):
        house = three()
        for name in ("dan", "an", "annn", "c", "drop"):
            self.refused(NoName, {"name": name}, house.do, ("drop", name))
            self.refused(NoName, {"name": name}, house.do, ["drop", name])
        house.do(("drop", "ann"))
        self.refused(NoName, {"name": "ann"}, house.do, ("drop", "ann"))
        self.assertEqual(house.names(), ["bob", "cyd"])

    def test_no_player_of_a_name(self):
        house = three()
        for name in no_moves_names() + other_objects() + ["dan", "an"]:
            with self.subTest(name=name):
                self.refused(NoName, {"name": name}, house.player, name)
        wrong = ["ann", ["bob"]]
        with self.assertRaises(NoName) as caught:
            house.player(wrong)
        wrong[1].clear()
        self.assertEqual(caught.exception.name, ["ann", ["bob"]])

    def test_the_names_are_the_askers_own(self):
        house = three()
        house.names().clear()
        house.names().append("dan")
        self.assertEqual(house.names(), ["ann", "bob", "cyd"])

    def test_a_list_that_is_changed_behind(self):
        house, deed = House(), ["put", "ann", till(0)]
        house.do(deed)
        self.assertEqual(deed, ["put", "ann", till(0)])
        deed[1] = "bob"
        deed[2] = None
        self.assertEqual(house.names(), ["ann"])
        self.assertEqual(house.player("ann"), till(0))
        deeds = [["put", "bob", till(1)], ["drop", "ann"]]
        house.all_done(deeds)
        deeds[1][1] = "bob"
        deeds.clear()
        self.assertEqual(house.names(), ["bob"])
        self.assertTrue(house.back())
        self.assertTrue(house.back())
        self.assertEqual(house.names(), ["ann"])


class Back(Asked):

    def test_to_the_begin_and_beyond(self):
        house = House()
        self.assertIs(house.back(), False)
        house.do(("put", "ann", till(0)))
        house.do(("put", "ann", till(1)))
        house.do(("put", "bob", till(2)))
        house.do(("drop", "ann"))
        self.assertEqual(house.names(), ["bob"])
        self.assertIs(house.back(), True)
        self.assertEqual((house.names(), house.player("ann")), (["ann", "bob"], till(1)))
        self.assertIs(house.back(), True)
        self.assertEqual(house.names(), ["ann"])
        self.assertIs(house.back(), True)
        self.assertEqual(house.player("ann"), till(0))
        self.assertIs(house.back(), True)
        self.assertEqual(house.names(), [])
        for _ in range(3):
            self.assertIs(house.back(), False)
        house.do(("put", "ann", till(5)))
        self.assertEqual(house.player("ann"), till(5))
        self.assertIs(house.back(), True)
        self.assertIs(house.back(), False)

    def test_what_was_taken_back_stays_so(self):
        house = housed(ann=till(0), bob=till(1))
        house.back()
        house.do(("put", "cyd", till(2)))
        self.assertEqual(house.names(), ["ann", "cyd"])
        house.back()
        house.back()
        self.assertEqual(house.names(), [])
        self.assertIs(house.back(), False)

    def test_a_put_of_an_equal_one_is_a_deed(self):
        house = housed(ann=till(0))
        house.do(("put", "ann", till(0)))
        self.assertIs(house.back(), True)
        self.assertEqual(house.names(), ["ann"])
        self.assertIs(house.back(), True)
        self.assertEqual(house.names(), [])

    def test_what_is_refused_is_no_deed(self):
        house = housed(ann=till(0))
        for deed in (("drop", "bob"), None, ("put", "bob", None)):
            with self.assertRaises(SightError):
                house.do(deed)
        with self.assertRaises(SightError):
            house.all_done([("put", "bob", till(1)), None])
        self.assertIs(house.back(), True)
        self.assertIs(house.back(), False)


class AllDone(Asked):

    def test_none_and_several(self):
        for wrap in (list, tuple):
            house = House()
            self.assertIsNone(house.all_done(wrap([])))
            self.assertIs(house.back(), False)
            self.assertIsNone(house.all_done(wrap([("put", "ann", till(0)), ["put", "bob", till(1)], ("drop", "ann"),
                                                   ("put", "ann", till(2)), ("put", "bob", till(3))])))
            self.assertEqual((house.player("ann"), house.player("bob")), (till(2), till(3)))
            # Each is taken back by itself.
            for names, bob in ((["ann", "bob"], till(1)), (["bob"], till(1)), (["ann", "bob"], till(1)),
                               (["ann"], None)):
                self.assertIs(house.back(), True)
                self.assertEqual(house.names(), names)
                if bob is not None:
                    self.assertEqual(house.player("bob"), bob)
            self.assertIs(house.back(), True)
            self.assertIs(house.back(), False)

    def test_one_is_refused(self):
        good = [("put", "dan", till(0)), ("drop", "ann"), ("put", "bob", till(1)), ("drop", "dan")]
        for wrong in [("drop", "eve"), ("drop", "zed"), *no_deeds()[:25], None]:
            for at in range(len(good) + 1):
                house = three()
                deeds = good[:at] + [wrong] + good[at:]
                with self.subTest(wrong=wrong, at=at):
                    self.refused(NoDeed, {"at": at}, house.all_done, deeds)
                    self.refused(NoDeed, {"at": at}, house.all_done, deeds=tuple(deeds) + (wrong,))
                    self.assertEqual(house.names(), ["ann", "bob", "cyd"])
                    self.assertEqual(house.player("bob"), plain(CD, "d"))
                    self.assertEqual(len(deeds), 5)
                    house.back()
                    self.assertEqual(house.names(), ["ann", "bob"])

    def test_of_no_deed(self):
        for wrong in no_deeds():
            house = three()
            with self.subTest(wrong=wrong):
                self.refused(NoDeed, {"at": 1}, house.all_done, [("drop", "ann"), wrong])
                self.assertEqual(house.names(), ["ann", "bob", "cyd"])

    def test_by_what_the_ones_ahead_do(self):
        house = three()
        self.refused(NoDeed, {"at": 1}, house.all_done, [("drop", "ann"), ("drop", "ann")])
        self.refused(NoDeed, {"at": 3}, house.all_done,
                     [("put", "dan", till(0)), ("put", "dan", till(1)), ("drop", "dan"), ("drop", "dan")])
        house.all_done([("put", "dan", till(0)), ("drop", "dan"), ("put", "dan", till(1)), ("drop", "ann")])
        self.assertEqual(house.names(), ["bob", "cyd", "dan"])
        self.assertEqual(house.player("dan"), till(1))

    def test_no_list(self):
        house = three()
        for thing in [*no_lists(), *other_objects()]:
            with self.subTest(thing=thing):
                self.refused(NoDeed, {"at": 0}, house.all_done, thing)
        self.assertEqual(house.names(), ["ann", "bob", "cyd"])


class Questions(Asked):

    def test_each_of_the_five(self):
        house = three()
        players = {name: house.player(name) for name in house.names()}
        for question in questions(["ann", "bob", "cyd"]):
            with self.subTest(question=question):
                told = answer_of(players, question)
                for asked in (question, listed(question), [question[0], *question[1:]], tuple(listed(question))):
                    self.assertEqual(house.ask(asked), told)
                    self.assertIs(type(house.ask(question=asked)), type(told))

    def test_what_they_tell(self):
        house = three()
        self.assertEqual(house.ask(("last", ("ann", "bob"))), ("d", "d"))
        self.assertEqual(house.ask(["last", ["ann"]]), ("d",))
        self.assertEqual(house.ask(("last", ["ann", "cyd", "ann", "cyd"])), ("c", "c", "c", "c"))
        self.assertEqual(house.ask(("brought", "ann", CD, "d", "c")), ("row", ("d",)))
        self.assertEqual(house.ask(("brought", "bob", CD, "c", "c")), ("never", ((0, ()),)))
        self.assertEqual(house.ask(("alike", "ann", "cyd", CD))[0], "alike")
        self.assertEqual(house.ask(("alike", "ann", "bob", CD)), ("unlike", ()))
        self.assertEqual(house.ask(("machine", "ann", CD)), Machine(CD, [("c", (0, 1)), ("d", (1, 1))]))
        self.assertEqual(house.ask(("best", "ann", table())), (3, ("c", "c"), ()))

    def test_a_question_that_is_emptied_behind(self):
        house = three()
        question = ["brought", "ann", ["c", "d"], "d", "c"]
        self.assertEqual(house.ask(question), ("row", ("d",)))
        self.assertEqual(question, ["brought", "ann", ["c", "d"], "d", "c"])
        question[2].clear()
        question.clear()
        names = ["ann", "bob"]
        house.ask(["last", names])
        names.clear()
        self.assertEqual(house.made(), [("brought", "ann", ("c", "d"), "d", "c"), ("last", ("ann", "bob"))])
        self.assertEqual(repr(house.made()), "[('brought', 'ann', ('c', 'd'), 'd', 'c'), ('last', ('ann', 'bob'))]")
        self.assertEqual(house.ask(("brought", "ann", CD, "d", "c")), ("row", ("d",)))
        self.assertEqual(len(house.made()), 2)

    def test_no_form(self):
        house = three()
        for question in no_questions():
            with self.subTest(question=question):
                self.refused(NoDeed, {"at": 0}, house.ask, question)
        self.assertEqual(house.made(), [])

    def test_nobody_of_a_name(self):
        house = three()
        for question, name in ((("last", ("dan",)), "dan"), (("last", ("ann", "dan", "eve")), "dan"),
                               (("last", ["eve", "dan"]), "eve"), (("brought", "dan", None, None, None), "dan"),
                               (("alike", "dan", "eve", CD), "dan"), (("alike", "ann", "eve", None), "eve"),
                               (("machine", "dan", None), "dan"), (("best", "dan", table()), "dan")):
            with self.subTest(question=question):
                self.refused(NoName, {"name": name}, house.ask, question)
        self.assertEqual(house.made(), [])
        # The form of the whole comes first.
        self.refused(NoDeed, {"at": 0}, house.ask, ("last", ("dan", None)))
        self.refused(NoDeed, {"at": 0}, house.ask, ("best", "dan", None))

    def test_refused_behind_the_names(self):
        house = three()
        for others in no_others():
            with self.subTest(others=others):
                self.refused(NoMoves, {}, house.ask, ("brought", "ann", others, "c", "c"))
                self.refused(NoMoves, {}, house.ask, ["alike", "ann", "bob", others])
                self.refused(NoMoves, {}, house.ask, ("machine", "ann", others))
        for thing in no_moves_names() + ["x", ["c"], *other_objects()]:
            with self.subTest(thing=thing):
                self.refused(NoMoves, {}, house.ask, ("brought", "ann", CD, thing, "c"))
                self.refused(NoMoves, {}, house.ask, ("brought", "ann", CD, "c", thing))
        house.do(("put", "dan", plain(["d", "c"], "c")))
        self.refused(NoPlayers, {}, house.ask, ("best", "dan", table()))
        self.assertEqual(house.made(), [])
        self.refused(NoPlayers, {}, house.ask, ("best", "dan", table()))

    def test_the_answers_of_a_new_house(self):
        # [2](f): whatever was done, what stands is what counts.
        seed = random.Random(110)
        names = ["ann", "bob", "cyd", "dan"]
        for _ in range(25):
            house, told = House(), {}
            befores = []
            for _ in range(25):
                name = seed.choice(names)
                deed = seed.choice(["put", "put", "drop", "back", "ask", "ask", "all", "twin", "bad"])
                if deed == "put":
                    befores.append(dict(told))
                    told[name] = seed.choice([trusting(0), trusting(1), nots(0, 2), plain(CD, "c"), till(2)])
                    house.do(("put", name, told[name]))
                elif deed == "drop" and name in told:
                    befores.append(dict(told))
                    del told[name]
                    house.do(("drop", name))
                elif deed == "back":
                    self.assertIs(house.back(), bool(befores))
                    told = befores.pop() if befores else told
                elif deed == "all":
                    befores += [dict(told), {**told, name: till(0)}]
                    told[name] = till(1)
                    house.all_done([("put", name, till(0)), ("put", name, till(1))])
                elif deed == "twin":
                    house = house.twin()
                elif deed == "bad":
                    with self.assertRaises(NoDeed):
                        house.all_done([("put", name, till(3)), ("drop", name), ("drop", name)])
                self.assertEqual(house.names(), sorted(told))
                for question in seed.sample(questions(sorted(told)), 4) if told else []:
                    self.assertEqual(house.ask(question), housed(**told).ask(question))
                    self.assertEqual(house.ask(question), answer_of(told, question))


class Kept(Asked):

    def anew(self, house, question):
        """Whether it is reckoned anew when it is asked."""
        many = len(house.made())
        house.ask(question)
        more = house.made()[many:]
        self.assertIn(len(more), (0, 1))
        return len(more) == 1

    def test_asked_again(self):
        house = three()
        for question in questions(["ann", "bob", "cyd"]):
            with self.subTest(question=question):
                self.assertTrue(self.anew(house, question))
                for asked in (question, listed(question)):
                    self.assertFalse(self.anew(house, asked))
                self.assertEqual(house.made()[-1], question)
                self.assertIs(type(house.made()[-1]), tuple)

    def test_unlike_questions(self):
        house = three()
        for question in (("last", ("ann", "bob")), ("last", ("bob", "ann")), ("last", ("ann", "bob", "ann")),
                         ("brought", "ann", CD, "c", "c"), ("brought", "ann", ["d", "c"], "c", "c"),
                         ("brought", "ann", CD, "d", "c"), ("alike", "ann", "bob", CD), ("alike", "bob", "ann", CD),
                         ("machine", "ann", CD), ("machine", "bob", CD), ("best", "ann", table()),
                         ("best", "ann", Table(CD, CD, {**DILEMMA, ("c", "c"): (4, 3)}))):
            self.assertTrue(self.anew(house, question))
        self.assertFalse(self.anew(house, ("best", "ann", table())))

    def kept_behind(self, change, told, wants):
        """Which questions over ann, bob and cyd are reckoned anew behind a change of ann."""
        house = three()
        asked = questions(["ann", "bob", "cyd"])
        for question in asked:
            house.ask(question)
        change(house)
        for question in asked:
            if wants(question):
                with self.subTest(told=told, question=question):
                    self.assertEqual(self.anew(house, question), hangs_on_ann(question))

    def test_behind_another_player(self):
        self.kept_behind(lambda house: house.do(("put", "ann", till(3))), "put", lambda question: True)
        # One that is alike, but isn't equal, is another one.
        self.kept_behind(lambda house: house.do(("put", "ann", nots(0, 2))), "alike", lambda question: True)
        self.kept_behind(lambda house: house.all_done([("put", "ann", till(3))]), "all", lambda question: True)

    def test_behind_a_drop(self):
        self.kept_behind(lambda house: house.do(("drop", "ann")), "drop", lambda question: not hangs_on_ann(question))

        def dropped(house):
            house.do(("drop", "ann"))
            house.do(("put", "ann", trusting(0)))

        self.kept_behind(dropped, "put again", lambda question: True)
        self.kept_behind(lambda house: house.all_done([("drop", "ann"), ("put", "ann", trusting(0))]), "all",
                         lambda question: True)

    def test_behind_a_back(self):
        def taken_back_at_once(house):
            house.do(("put", "ann", till(3)))
            house.back()

        def dropped_and_back(house):
            house.do(("drop", "ann"))
            house.back()

        def all_and_back(house):
            house.all_done([("put", "ann", till(3)), ("put", "ann", trusting(0))])

        for change in (taken_back_at_once, dropped_and_back, all_and_back):
            self.kept_behind(change, change.__name__, lambda question: True)

    def test_back_alone(self):
        house = three()
        house.do(("put", "ann", till(3)))
        house.ask(("last", ("ann", "bob")))
        house.ask(("last", ("bob", "cyd")))
        house.back()
        self.assertTrue(self.anew(house, ("last", ("ann", "bob"))))
        self.assertFalse(self.anew(house, ("last", ("bob", "cyd"))))

    def test_kept_where_nothing_changes(self):
        def equal_one(house):
            house.do(("put", "ann", trusting(0)))

        def equal_one_and_back(house):
            equal_one(house)
            house.back()

        def new_one(house):
            house.do(("put", "dan", till(3)))
            house.do(("drop", "dan"))
            house.back()

        def refused(house):
            for deed in (None, ("drop", "zed"), ("put", "ann", None)):
                with self.assertRaises(SightError):
                    house.do(deed)
            with self.assertRaises(NoDeed):
                house.all_done([("put", "ann", till(3)), ("drop", "bob"), ("drop", "bob")])
            with self.assertRaises(SightError):
                house.ask(("last", ("zed",)))

        for change in (equal_one, equal_one_and_back, new_one, refused, lambda house: house.all_done([])):
            house = three()
            asked = questions(["ann", "bob", "cyd"])
            for question in asked:
                house.ask(question)
            change(house)
            for question in asked:
                self.assertFalse(self.anew(house, question))

    def test_what_is_refused_is_never_kept(self):
        house = three()
        for _ in range(2):
            self.refused(NoMoves, {}, house.ask, ("brought", "ann", CD, "x", "c"))
            self.refused(NoName, {"name": "dan"}, house.ask, ("last", ("dan",)))
        self.assertEqual(house.made(), [])
        house.do(("put", "dan", till(0)))
        self.assertEqual(house.ask(("last", ("dan",))), ("d",))
        # Kept, but by nobody's name any more.
        house.do(("drop", "dan"))
        self.refused(NoName, {"name": "dan"}, house.ask, ("last", ("dan",)))
        self.assertEqual(house.made(), [("last", ("dan",))])

    def test_made_is_the_askers_own(self):
        house = three()
        house.ask(("last", ("ann", "bob")))
        house.made().clear()
        house.made().append(("last", ("cyd",)))
        self.assertEqual(house.made(), [("last", ("ann", "bob"))])
        self.assertTrue(self.anew(house, ("last", ("cyd",))))
        house.back()
        house.back()
        house.back()
        self.assertEqual(house.made(), [("last", ("ann", "bob")), ("last", ("cyd",))])

    def test_in_order_and_again(self):
        house = three()
        first, second = ("last", ("ann",)), ("machine", "ann", ("c", "d"))
        house.ask(second)
        house.ask(first)
        house.ask(second)
        house.do(("put", "ann", till(0)))
        house.ask(first)
        house.ask(listed(second))
        house.back()
        house.ask(second)
        self.assertEqual(house.made(), [second, first, first, second, second])


def hangs_on_ann(question):
    if question[0] == "last":
        return "ann" in question[1]
    return "ann" in (question[1:3] if question[0] == "alike" else question[1:2])


class Log(Asked):

    def test_all_that_is_told(self):
        house = House()
        self.assertEqual(house.log(), [])
        calls = [lambda: house.do(("put", "ann", till(0))), lambda: house.do(None), lambda: house.do(("drop", "zed")),
                 lambda: house.back(), lambda: house.back(), lambda: house.all_done([]), lambda: house.all_done(None),
                 lambda: house.all_done([("put", "bob", till(1)), ("put", "cyd", till(1))]),
                 lambda: house.all_done([("put", "dan", till(1)), ("drop", "zed")]), lambda: house.do(("drop", "bob"))]
        for k, call in enumerate(calls, start=1):
            try:
                call()
            except SightError:
                pass
            told = [(word, at) for at in range(1, k + 1) for word in ("begin", "end")]
            self.assertEqual(house.log(), told)
            self.assertEqual(repr(house.log()), repr(told))
        self.assertEqual(house.names(), ["cyd"])

    def test_nothing_else_is_in_it(self):
        house = three()
        many = len(house.log())
        self.assertEqual(many, 6)
        house.ask(("last", ("ann",)))
        for question in (None, ("last", ("zed",)), ("brought", "ann", None, "c", "c")):
            with self.assertRaises(SightError):
                house.ask(question)
        with self.assertRaises(SightError):
            house.player("zed")
        house.names()
        house.made()
        house.twin().do(("drop", "ann"))
        house.log().clear()
        self.assertEqual(len(house.log()), many)


class Twins(Asked):

    def test_all_that_was(self):
        house = three()
        house.do(("drop", "bob"))
        house.ask(("last", ("ann", "cyd")))
        twin = house.twin()
        self.assertIs(type(twin), House)
        self.assertEqual(twin.names(), ["ann", "cyd"])
        self.assertEqual(twin.player("ann"), house.player("ann"))
        self.assertEqual((twin.made(), twin.log()), (house.made(), house.log()))
        twin.ask(("last", ("ann", "cyd")))
        self.assertEqual(len(twin.made()), 1)
        for names in (["ann", "bob", "cyd"], ["ann", "bob"], ["ann"], []):
            self.assertIs(twin.back(), True)
            self.assertEqual(twin.names(), names)
        self.assertIs(twin.back(), False)
        self.assertEqual(house.names(), ["ann", "cyd"])

    def test_neither_hears_of_the_other(self):
        for turn in (False, True):
            house = three()
            house.ask(("last", ("ann", "bob")))
            twin = house.twin()
            one, other = (twin, house) if turn else (house, twin)
            one.do(("put", "ann", till(9)))
            one.do(("put", "dan", till(0)))
            one.ask(("last", ("ann", "dan")))
            one.back()
            one.all_done([("drop", "bob")])
            self.assertEqual(other.names(), ["ann", "bob", "cyd"])
            self.assertEqual(other.player("ann"), trusting(0))
            self.assertEqual(other.made(), [("last", ("ann", "bob"))])
            self.assertEqual(len(other.log()), 6)
            other.ask(("last", ("ann", "bob")))
            self.assertEqual(len(other.made()), 1)
            other.back()
            other.back()
            self.assertEqual(other.names(), ["ann"])
            self.assertEqual(one.names(), ["ann", "cyd"])
            self.assertEqual(one.player("ann"), till(9))

    def test_neither_keeps_what_the_other_reckoned(self):
        for turn in (False, True):
            house = three()
            house.ask(("last", ("ann",)))
            twin = house.twin()
            one, other = (twin, house) if turn else (house, twin)
            question = ("machine", "ann", ("c", "d"))
            one.ask(question)
            other.ask(question)
            self.assertEqual(one.made(), [("last", ("ann",)), question])
            self.assertEqual(other.made(), [("last", ("ann",)), question])
            # What the one forgets the other one still has.
            one.do(("drop", "ann"))
            other.ask(question)
            other.ask(("last", ("ann",)))
            self.assertEqual(len(other.made()), 2)

    def test_at_any_moment(self):
        twin = House().twin()
        self.assertEqual((twin.names(), twin.made(), twin.log()), ([], [], []))
        self.assertIs(twin.back(), False)
        again = three().twin().twin()
        self.assertEqual(again.names(), ["ann", "bob", "cyd"])
        house = three()
        with self.assertRaises(NoDeed):
            house.all_done([("drop", "ann"), None])
        twin = house.twin()
        self.assertEqual(twin.log(), house.log())
        self.assertEqual(twin.names(), ["ann", "bob", "cyd"])

    def test_houses_hear_nothing_of_one_another(self):
        one, other = three(), House()
        self.assertEqual(other.names(), [])
        one.ask(("last", ("ann",)))
        other.do(("put", "ann", till(0)))
        self.assertEqual(other.made(), [])
        self.assertEqual(other.ask(("last", ("ann",))), ("d",))
        self.assertEqual(one.player("ann"), trusting(0))


class OfManyRows(Asked):

    def test_long_chains(self):
        house = housed(ann=nots(99, 1500), bob=nots(99, 1900))
        self.assertEqual(house.ask(("alike", "ann", "bob", CD))[0], "alike")
        self.assertEqual(house.ask(("last", ("ann", "bob", "ann", "bob"))), ("c",) * 4)
        self.assertEqual(len(house.ask(("machine", "ann", CD)).rows()), 101)
        self.assertEqual(house.ask(("best", "bob", table())), (3, ("c", "c"), ()))
        self.assertEqual(house.ask(("brought", "ann", CD, "d", "c")), ("row", ("c",) * 99 + ("d",)))

    def test_some_players(self):
        seed = random.Random(111)
        for _ in range(20):
            one = plainly.some_player(seed, 12, 3, ("c", "d"))
            house = housed(ann=one, bob=some_player())
            for question in questions(["ann", "bob"]):
                self.assertEqual(house.ask(question), answer_of({"ann": one, "bob": some_player()}, question))
            self.assertIs(type(house.player("ann")), Player)


if __name__ == "__main__":
    unittest.main()
