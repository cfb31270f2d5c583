"""What DOC.md promises over the whole program: [2], [3] and [4] of every def at once."""

import random
import unittest

from lookthrough.alikes import alike, parter, shows_alike
from lookthrough.desk import Desk
from lookthrough.endings import begin, brought, endings, led, move_by, shows_never
from lookthrough.errors import SightError
from lookthrough.facing import Faced, opponent
from lookthrough.house import House
from lookthrough.judging import judged
from lookthrough.machines import Machine, machine_of
from lookthrough.meetings import Meeting, shows_last
from lookthrough.players import Player, plain
from lookthrough.playertexts import player_text, read_player
from lookthrough.rows import hangs_on, is_move, looks_down, need_rows, showns
from lookthrough.worths import Table, best, floor, shows_stood, standing, stood
from lookthrough.writing import player_of, smallest
import plainly
from folk import CD, FALSE, T, nots, password, trusting

DILEMMA = {("c", "c"): [3, 3], ("c", "d"): [0, 5], ("d", "c"): [5, 0], ("d", "d"): [1, 1]}
ROWS = [FALSE, ("does", 1, "c"), ("shown", 2, 1), ("shown", 1, 0)]
PAIRED = [("does", 1, "c"), ("shown", 1, 0), ("shown", 2, 0), ("and", 1, 2)]


def table():
    return Table(CD, CD, DILEMMA)


def housed():
    house = House()
    house.do(("put", "ann", trusting(1)))
    house.do(("put", "bob", Player(CD, PAIRED, [3])))
    return house


def told_of(thing):
    """What a thing is, through and through, so that two may be held against one another."""
    if isinstance(thing, (list, tuple)):
        return (type(thing).__name__, [told_of(part) for part in thing])
    if isinstance(thing, dict):
        return ("dict", [(key, told_of(part)) for key, part in thing.items()])
    if isinstance(thing, Player):
        return ("Player", thing.moves(), thing.rows(), thing.chosen())
    if isinstance(thing, Machine):
        return ("Machine", thing.letters(), thing.rows())
    if isinstance(thing, Table):
        return ("Table", thing.mine(), thing.yours(),
                [thing.worth(a, b) for a in thing.mine() for b in thing.yours()])
    if isinstance(thing, Meeting):
        return ("Meeting", thing.paper(), [thing.moves_at(level) for level in range(9)])
    if isinstance(thing, Faced):
        return ("Faced", [thing.move_at(level) for level in range(9)], thing.stays())
    if isinstance(thing, House):
        return ("House", thing.names(), thing.made(), thing.log())
    return repr(thing)


def some_calls():
    """Each def with arguments that it takes, by their names; made anew each time."""
    one, other = trusting(1), Player(CD, PAIRED, [3])
    stands = brought(one, CD, "c", "d")[1]
    machine = Machine(CD, [("c", (1, 1)), ("c", (1, 2)), ("d", (2, 2))])
    answer = stood(table(), "c", "c")
    return [
        (is_move, {"thing": "c"}), (need_rows, {"rows": list(ROWS)}), (looks_down, {"rows": list(ROWS), "at": 2}),
        (hangs_on, {"rows": list(ROWS), "some": [2]}), (showns, {"rows": list(ROWS), "some": [3, 2]}),
        (Player, {"moves": list(CD), "rows": list(ROWS), "chosen": [2]}), (plain, {"moves": list(CD), "move": "d"}),
        (Meeting, {"players": [one, other, one]}),
        (shows_last, {"players": [one, other], "paper": Meeting([one, other]).paper(), "moves": ("c", "c")}),
        (Meeting([one, other]).moves_at, {"level": 3}), (Meeting([one]).holds, {"seat": 0, "row": 2, "level": 1}),
        (player_text, {"player": one}), (read_player, {"text": player_text(one)}),
        (Faced, {"player": one, "letters": ["c", "d"], "tail": "c"}),
        (Faced(one, ["c", "d"], "c").move_at, {"level": 2}),
        (opponent, {"moves": list(CD), "letters": ["c", "d"], "tail": "c"}),
        (begin, {"player": one}), (move_by, {"player": one, "stand": (1, (T,))}),
        (led, {"player": one, "stand": (1, (T,)), "letter": "d"}), (endings, {"player": one, "others": list(CD)}),
        (brought, {"player": one, "others": list(CD), "mine": "d", "yours": "c"}),
        (shows_never, {"player": one, "others": list(CD), "mine": "c", "yours": "d", "stands": stands}),
        (alike, {"one": one, "other": other, "others": list(CD)}),
        (shows_alike, {"one": one, "other": one, "others": list(CD), "pairs": alike(one, one, CD)[1]}),
        (parter, {"one": one, "other": trusting(2), "others": list(CD)}),
        (Machine, {"letters": list(CD), "rows": list(machine.rows())}), (machine.does, {"word": ["c", "d"]}),
        (machine_of, {"player": one, "others": list(CD)}), (player_of, {"machine": machine, "moves": ["d", "c", "e"]}),
        (smallest, {"player": other, "others": list(CD)}),
        (Table, {"mine": list(CD), "yours": list(CD), "worths": {pair: list(DILEMMA[pair]) for pair in DILEMMA}}),
        (table().worth, {"a": "c", "b": "d"}), (floor, {"table": table()}), (best, {"table": table(), "player": one}),
        (standing, {"table": table()}), (stood, {"table": table(), "a": "c", "b": "c"}),
        (shows_stood, {"table": table(), "a": "c", "b": "c", "answer": answer}),
        (House().do, {"deed": ["put", "ann", one]}),
        (House().all_done, {"deeds": [["put", "ann", one], ["drop", "ann"]]}),
        (housed().player, {"name": "ann"}), (housed().ask, {"question": ["last", ["ann", "bob"]]}),
        (housed().ask, {"question": ["brought", "ann", ["c", "d"], "d", "c"]}),
        (judged, {"record": [("put", "ann", one), ("stood", table(), "c", "c", answer), None]}),
        (Desk().say, {"row": "last ann"}),
    ]


def places(thing):
    """The thing with None put in at each place of its lists, in turn, however deep."""
    if isinstance(thing, list):
        for at, part in enumerate(thing):
            yield thing[:at] + [None] + thing[at + 1:]
            for other in places(part):
                yield thing[:at] + [other] + thing[at + 1:]
    yield None


class Arguments(unittest.TestCase):

    def test_by_place_and_by_name(self):
        for at, (asked, named) in enumerate(some_calls()):
            with self.subTest(asked=asked.__name__, at=at):
                told = told_of(asked(**named))
                placed, again = list(some_calls()[at][1].values()), some_calls()[at][0]
                self.assertEqual(told_of(again(*placed)), told)
                again = some_calls()[at][0]
                turned = dict(reversed(list(named.items())))
                self.assertEqual(told_of(again(**turned)), told)

    def test_tuples_for_lists(self):
        for at, (asked, named) in enumerate(some_calls()):
            given = {name: tuple(thing) if isinstance(thing, list) else thing for name, thing in named.items()}
            with self.subTest(asked=asked.__name__):
                self.assertEqual(told_of(asked(**given)), told_of(some_calls()[at][0](**named)))

    def test_what_is_handed_in_stays(self):
        for asked, named in some_calls():
            before = told_of(named)
            with self.subTest(asked=asked.__name__):
                asked(**named)
                self.assertEqual(told_of(named), before)

    def test_what_is_refused_stays(self):
        refused = 0
        for asked, named in some_calls():
            for name, thing in named.items():
                for wrong in places(thing):
                    given = {**named, name: wrong}
                    before = told_of(given)
                    if asked in (floor, standing, stood, shows_stood, player_text, player_of, best) or name == "row":
                        # What is no table, machine or text is refused by no promise.
                        continue
                    try:
                        asked(**given)
                    except SightError as refusal:
                        refused += 1
                        self.assertIs(type(refusal).__bases__[0], SightError)
                    self.assertEqual(told_of(given), before)
        self.assertGreater(refused, 70)

    def test_lists_that_are_changed_behind(self):
        for at, (asked, named) in enumerate(some_calls()):
            answer = asked(**named)
            told = told_of(answer)
            for thing in named.values():
                if isinstance(thing, (list, dict)):
                    thing.clear()
            with self.subTest(asked=asked.__name__):
                self.assertEqual(told_of(answer), told)
                # What was told may be changed, too.
                if isinstance(answer, list):
                    answer.clear()
                self.assertEqual(told_of(some_calls()[at][0](**some_calls()[at][1])), told)


class LongChains(unittest.TestCase):
    """No limit of depth is met, by whatever def takes a player."""

    def players(self):
        ands = [("does", 1, "c"), ("shown", 2, 0)]
        ands += [("and" if at % 2 else "or", at, 1) for at in range(1, 1900)]
        shown = [("does", 1, "c")] + [("not", at) for at in range(1200)] + [("shown", 1, 1200)]
        deep = [("does", 1, "c"), ("shown", 0, 0)] + [("or", at, at) for at in range(1, 1700)]
        return [nots(99, 1500), Player(CD, ands, [len(ands) - 1]), Player(CD, shown, [1201]),
                Player(CD, deep, [len(deep) - 1]), opponent(CD, ["c", "d"] * 49, "d")]

    def test_every_def(self):
        for player in self.players():
            others = ["c", "d"]
            with self.subTest(rows=len(player.rows())):
                self.assertEqual(read_player(player_text(player)), player)
                meeting = Meeting([player, player, player, player])
                self.assertIs(shows_last([player] * 4, meeting.paper(), meeting.last()), True)
                self.assertEqual(Faced(player, ["c", "d"] * 100, "c").stays() >= 0, True)
                self.assertEqual(move_by(player, begin(player)), Faced(player, [], "c").move_at(0))
                led(player, begin(player), "c")
                for mine, yours in endings(player, others):
                    kind, letters = brought(player, others, mine, yours)
                    self.assertEqual(Faced(player, letters, yours).last(), mine)
                kind, stands = brought(player, others, "c", "d")
                self.assertIs(kind == "row" or shows_never(player, others, "c", "d", stands), True)
                kind, pairs = alike(player, player, others)
                self.assertIs(shows_alike(player, player, others, pairs), True)
                self.assertIsNone(parter(player, player, others))
                machine, small = machine_of(player, others), smallest(player, others)
                self.assertEqual(machine_of(small, others), machine)
                self.assertGreaterEqual(best(table(), player)[0], floor(table())[0])
                house = House()
                house.all_done([("put", "ann", player), ("put", "bob", small)])
                self.assertEqual(house.ask(("alike", "ann", "bob", others))[0], "alike")
                answer = house.ask(("last", ("ann", "bob")))
                paper = Meeting([player, small]).paper()
                record = [("put", "ann", player), ("put", "bob", small), ("last", ("ann", "bob"), paper, answer),
                          ("alike", "ann", "bob", ("c", "d"), alike(player, small, others))]
                self.assertIsNone(judged(record))
                desk = Desk()
                desk.say("player ann")
                for row in player_text(player).split("\n")[:-1]:
                    desk.say(row)
                self.assertEqual([desk.say("over"), desk.say("alike ann ann by c d")], ["ok", "alike"])

    def test_in_tables(self):
        _, one, other, ones, others = stood(table(), "c", "c")
        long = nots(0, 1800)
        self.assertIs(shows_stood(table(), "c", "c", ("stands", long, other, ones, others)), True)
        self.assertIs(shows_stood(table(), "c", "c", ("stands", one, long, ones, others)), True)


class Together(unittest.TestCase):

    def test_one_story(self):
        # [2](c), (d): machines and players of one another, by whoever does these letters.
        seed = random.Random(2)
        for _ in range(40):
            player = plainly.some_player(seed, seed.randrange(2, 20), 3, ("c", "d"))
            others = seed.sample(["c", "d", "x"], seed.randint(2, 3))
            small = smallest(player, others)
            written = player_of(machine_of(player, others), ["d", "c"])
            self.assertEqual(alike(player, small, others)[0], "alike")
            self.assertEqual(alike(player, written, others)[0], "alike")
            self.assertIsNone(parter(written, small, others))
            for mine in CD:
                for yours in others:
                    kind, letters = brought(player, others, mine, yours)
                    again, others_letters = brought(written, others, mine, yours)
                    self.assertEqual(kind, again)
                    self.assertEqual(letters if kind == "row" else None, others_letters if kind == "row" else None)
            met = plainly.some_player(seed, 10, 2, tuple(others))
            for level in range(10):
                done = {Meeting([one, met]).moves_at(level) for one in (player, small, written)}
                self.assertEqual(len(done), 1)

    def test_meetings_stay(self):
        # [2](a): from a level on that is at most the greatest k and how many showns all seats have, together.
        seed = random.Random(3)
        for _ in range(60):
            players = [plainly.some_player(seed, seed.randrange(1, 16), seed.choice([0, 3, 9]), ("c", "d"))
                       for _ in range(seed.randint(1, 4))]
            meeting = Meeting(players)
            bound = max(player.top() for player in players) + sum(len(player.showns()) for player in players)
            self.assertLessEqual(meeting.stays(), bound)
            self.assertEqual(meeting.last(), meeting.moves_at(bound))
            self.assertEqual(meeting.last(), meeting.moves_at(10 ** 9))

    def test_a_password_through_all(self):
        player = password("d", "c", "d")
        self.assertEqual(brought(player, CD, "c", "c"), ("row", ("d", "c", "d")))
        machine = machine_of(player, CD)
        self.assertEqual(len(machine.rows()), 5)
        self.assertEqual(machine.does(["d", "c", "d", "c"]), "c")
        self.assertEqual(best(table(), player), (5, ("c", "d"), ("d", "c")))
        self.assertEqual(smallest(player, CD), smallest(player, CD))


if __name__ == "__main__":
    unittest.main()
