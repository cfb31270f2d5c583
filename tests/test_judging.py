"""[120], and [2](f), [3] and [4] of it: records, and the first row that isn't so."""

import random
import unittest

from lookthrough.alikes import alike
from lookthrough.endings import brought
from lookthrough.facing import Faced, opponent
from lookthrough.house import House
from lookthrough.judging import judged
from lookthrough.meetings import Meeting
from lookthrough.players import Player, plain
from lookthrough.worths import Table, standing, stood
import plainly
from asking import no_others, no_players, other_objects
from plainjudge import plainly_judged
from folk import CD, F, FALSE, T, no_stands, nots, password, till, trusting
from things import nested, no_lists, no_moves_names, no_numbers, some_player

C_D = ("c", "d")
DILEMMA = {("c", "c"): (3, 3), ("c", "d"): (0, 5), ("d", "c"): (5, 0), ("d", "d"): (1, 1)}


def table():
    return Table(CD, CD, DILEMMA)


def met(house, *names):
    """The row of a meeting."""
    meeting = Meeting([house.player(name) for name in names])
    return ("last", names, meeting.paper(), meeting.last())


def put(**players):
    return [("put", name, player) for name, player in players.items()]


def three():
    return put(ann=trusting(0), bob=plain(CD, "d"), cyd=nots(2, 4))


def players_of(record):
    house = House()
    for row in record:
        if row[0] in ("put", "drop"):
            house.do(row)
    return house


def finders_rows(house, others=C_D):
    """What the finders tell of all players in a house."""
    rows = []
    for name in house.names():
        player = house.player(name)
        for mine in player.moves():
            for yours in others:
                rows.append(("brought", name, others, mine, yours, brought(player, others, mine, yours)))
        for other in house.names():
            rows.append(met(house, name, other))
            rows.append(("alike", name, other, others, alike(player, house.player(other), others)))
    return rows


def spoiled(thing):
    """The thing with one part of it otherwise, each in turn, however deep; players and tables stay."""
    if isinstance(thing, tuple):
        for at, part in enumerate(thing):
            for other in spoiled(part):
                yield thing[:at] + (other,) + thing[at + 1:]
            yield thing[:at] + thing[at + 1:]
        yield thing + (None,)
        yield list(thing)
        yield None
    elif isinstance(thing, bool):
        yield not thing
        yield int(thing)
    elif isinstance(thing, int):
        yield thing + 1
        yield thing - 1
        yield -thing - 1
        if thing in (0, 1):
            yield bool(thing)
    elif isinstance(thing, str):
        yield thing + "x"
        yield thing.upper()
        yield ""
        yield [thing]
        yield None
    else:
        yield None


class Judged(unittest.TestCase):

    def judged(self, record, told):
        """By list and tuple; what is handed in stays."""
        self.assertEqual(judged(record), told)
        self.assertEqual(judged(tuple(record)), told)
        self.assertEqual(judged(record=record), told)
        if told is not None:
            self.assertIs(type(judged(record)), int)

    def behind(self, record, row, is_so):
        """A row behind a record that is so, with another row that is so, or not, behind it."""
        at = len(record)
        for more in ([], put(zed=till(0)), [("drop", "nobody")]):
            told = at if not is_so else at + 1 if more and more[0][0] == "drop" else None
            with self.subTest(row=row, more=more):
                self.judged(record + [row] + more, told)


    def spoiled(self, record, row):
        """A row that is so, then with each thing otherwise; how many of these are so, too."""
        self.assertIsNone(plainly_judged(record + [row]))
        self.behind(record, row, True)
        many = 0
        for other in spoiled(row):
            is_so = plainly_judged(record + [other]) is None
            many += is_so
            self.behind(record, other, is_so)
        return many


class Rows(Judged):

    def test_nothing(self):
        self.judged([], None)

    def test_no_list(self):
        for thing in [*no_lists(), *other_objects()]:
            with self.subTest(thing=thing):
                self.assertEqual(judged(thing), 0)
                self.assertIs(type(judged(thing)), int)

    def test_put_and_drop(self):
        self.judged(three(), None)
        self.judged(three() + [("drop", "ann"), ("drop", "bob"), ("drop", "cyd")], None)
        self.judged(three() + put(ann=till(1)) + [("drop", "ann")] + put(ann=till(2)), None)
        self.judged([("drop", "ann")], 0)
        self.judged(three() + [("drop", "dan"), None], 3)
        self.judged(three() + [("drop", "ann"), ("drop", "ann")], 4)

    def test_no_form(self):
        answer = brought(trusting(0), C_D, "c", "c")
        paper, moves = Meeting([trusting(0)]).paper(), ("c",)
        wrong = [("put", "ann"), ("put", "ann", till(0), till(0)), ("drop", "ann", "bob"), ("drop",), ("put",),
                 ("last", ("ann",), paper), ("last", ("ann",), paper, moves, None), ("last",), ("brought",),
                 ("brought", "ann", C_D, "c", "c"), ("brought", "ann", C_D, "c", "c", answer, None),
                 ("alike", "ann", "ann", C_D), ("alike", "ann", "ann", C_D, alike(till(0), till(0), C_D), None),
                 ("stood", table(), "c", "c"), ("stood", table(), "c", "c", stood(table(), "c", "c"), None),
                 ("machine", "ann", C_D), ("best", "ann", table()), ("puts", "ann", till(0)), (None, "ann", till(0)),
                 (till(0), "ann", till(0)), (("put",), "ann", till(0)), (["put"], "ann", till(0)), (0, 1), (),
                 ["put", "ann", till(0)], ["drop", "ann"], [], "drop ann", {"drop": "ann"}, (("drop", "ann"),)]
        wrong += [("put", name, till(0)) for name in no_moves_names() + other_objects()]
        wrong += [("drop", name) for name in no_moves_names() + other_objects()]
        wrong += [("put", "ann", thing) for thing in no_players()]
        wrong += no_lists() + other_objects() + [nested(30, lambda thing: (thing,)), nested(30, lambda thing: [thing])]
        for row in wrong:
            self.behind(three(), row, False)
            self.judged([row], 0)

    def test_which_row(self):
        house = players_of(three())
        rows = three() + finders_rows(house)
        self.judged(rows, None)
        for at in range(len(rows)):
            self.judged(rows[:at] + [None] + rows[at:], at)
            self.judged(rows[:at] + [("drop", "zed")] + rows[at:] + [None], at)

    def test_dropped_or_put_anew(self):
        rows = finders_rows(players_of(three()))
        for row in rows:
            names = row[1] if row[0] == "last" else row[1:3] if row[0] == "alike" else row[1:2]
            for name in ("ann", "bob", "cyd"):
                with self.subTest(row=row, name=name):
                    record = three() + [row, ("drop", name), row]
                    self.judged(record, 5 if name in names else None)
                    # Put again, it is as it was.
                    self.judged(three() + [("drop", name)] + [put for put in three() if put[1] == name] + [row], None)
        # What was so of the one isn't so of the other one.
        row = ("brought", "ann", C_D, "d", "c", ("row", ("d",)))
        self.judged(put(ann=trusting(0)) + [row] + put(ann=plain(CD, "c")) + [row], 3)
        self.judged(put(ann=plain(CD, "c")) + [row], 1)

    def test_the_record_stays(self):
        rows = three() + finders_rows(players_of(three())) + [None]
        kept = list(rows)
        judged(rows)
        self.assertEqual(rows, kept)
        self.assertEqual(judged(rows), judged(rows))


class Last(Judged):

    def test_told_papers(self):
        house = players_of(three())
        for names in (("ann",), ("ann", "bob"), ("bob", "ann"), ("cyd", "ann", "cyd"), ("ann",) * 4):
            self.behind(three(), met(house, *names), True)

    def test_each_thing_otherwise(self):
        record = put(ann=trusting(1), bob=nots(2, 2))
        self.assertEqual(self.spoiled(record, met(players_of(record), "ann", "bob")), 0)
        self.assertEqual(self.spoiled(record, met(players_of(record), "bob")), 0)

    def test_names(self):
        _, _, paper, moves = met(players_of(three()), "ann")
        for names in ((), ("ann",) * 5, ["ann"], "ann", None, ("dan",), ("ann", "dan"), (None,), ("Ann",), (("ann",),)):
            self.behind(three(), ("last", names, paper, moves), False)
        four = met(players_of(three()), "ann", "ann", "ann", "ann")
        self.behind(three(), ("last", ("ann",) * 5, *four[2:]), False)

    def test_another_ones_paper(self):
        record = put(ann=trusting(0), bob=trusting(1), cyd=plain(CD, "c"))
        house = players_of(record)
        for one in house.names():
            for other in house.names():
                _, _, paper, moves = met(house, one)
                is_so = met(house, other)[2:] == (paper, moves)
                self.behind(record, ("last", (other,), paper, moves), is_so)


class Brought(Judged):

    def row(self, player, mine, yours, answer, others=C_D):
        return put(ann=player), ("brought", "ann", others, mine, yours, answer)

    def test_told_ones(self):
        for player in (trusting(0), trusting(3), till(2), plain(CD, "c"), password("d", "c")):
            for mine in CD:
                for yours in CD:
                    for others in (C_D, ("d", "c"), ("x", "d", "c"), (yours,)):
                        answer = brought(player, others, mine, yours)
                        self.behind(*self.row(player, mine, yours, answer, others), True)

    def test_each_thing_otherwise(self):
        for player, mine, yours in ((password("d", "c", "d"), "c", "c"), (trusting(1), "c", "d"), (till(1), "d", "c")):
            self.spoiled(*self.row(player, mine, yours, brought(player, C_D, mine, yours)))

    def test_letters_that_are_not_the_shortest(self):
        for letters in (("d",), ("d", "d"), ("c", "d"), ("c", "c", "c", "d", "c"), ("d",) * 150):
            self.behind(*self.row(trusting(0), "d", "c", ("row", letters)), True)
            self.behind(*self.row(trusting(0), "c", "c", ("row", letters)), False)
        self.behind(*self.row(trusting(0), "c", "c", ("row", ("c",) * 300)), True)
        self.behind(*self.row(till(5), "d", "c", ("row", ("d", "c", "d"))), True)

    def test_letters_that_lead_elsewhere(self):
        for letters in ((), ("c",), ("c", "c", "c")):
            self.behind(*self.row(trusting(0), "d", "c", ("row", letters)), False)
        self.behind(*self.row(password("d", "c"), "c", "c", ("row", ("c", "d"))), False)
        self.behind(*self.row(password("d", "c"), "c", "c", ("row", ("d", "c", "d"))), True)
        self.behind(*self.row(password("d", "c"), "c", "c", ("row", ("d",))), True)
        self.behind(*self.row(password("d", "c"), "c", "d", ("row", ("d",))), False)

    def test_letters_that_are_not_others(self):
        for letters in (("x",), ("d", "x"), ("d", None), ("d", True), (("d",),), ["d"], "d", None, {"d": 1}, ("d", "D"),
                        (trusting(0),), 1):
            with self.subTest(letters=letters):
                self.behind(*self.row(trusting(0), "d", "c", ("row", letters)), False)
        self.behind(*self.row(trusting(0), "d", "c", ("row", ("x",)), ("c", "x")), True)

    def test_papers_that_no_finder_tells(self):
        _, stands = brought(trusting(1), C_D, "c", "d")
        for told in (stands[::-1], stands * 2, stands + stands[:1], stands + ((0, (F,)),)):
            self.behind(*self.row(trusting(1), "c", "d", ("never", told)), True)
        for at in range(len(stands)):
            self.behind(*self.row(trusting(1), "c", "d", ("never", stands[:at] + stands[at + 1:])), False)
        for stand in no_stands(trusting(1)):
            self.behind(*self.row(trusting(1), "c", "d", ("never", stands + (stand,))), False)
        self.behind(*self.row(trusting(1), "d", "d", ("never", stands)), False)

    def test_answers_of_other_kinds(self):
        for answer in [*no_lists(), (), [], ("row",), ("row", (), ()), ["row", ("d",)], ("rows", ("d",)), ("d",),
                       (("d",), "row"), (None, ("d",)), (trusting(0), ("d",)), ("by", ("d",)), ("alike", ("d",)),
                       ("never", ()), ("never", None), ("row", None), *other_objects()]:
            self.behind(*self.row(trusting(0), "d", "c", answer), False)

    def test_refused(self):
        for others in [*no_others(), ["c", "d"], ["c"]]:
            self.behind(*self.row(trusting(0), "d", "c", ("row", ("d",)), others), False)
        for thing in no_moves_names() + ["x"]:
            self.behind(*self.row(trusting(0), thing, "c", ("row", ("d",))), False)
            self.behind(*self.row(trusting(0), "d", thing, ("row", ("d",))), False)
            self.behind(put(ann=trusting(0)), ("brought", thing, C_D, "d", "c", ("row", ("d",))), False)


class Alike(Judged):

    def row(self, one, other, answer, others=C_D):
        return put(ann=one, bob=other), ("alike", "ann", "bob", others, answer)

    def test_told_ones(self):
        for one, other in ((trusting(0), nots(0, 2)), (trusting(0), trusting(2)), (till(1), till(3)),
                           (plain(CD, "c"), plain(CD, "d"))):
            for others in (C_D, ("d", "c"), ("x",), ("x", "c", "d")):
                self.behind(*self.row(one, other, alike(one, other, others), others), True)

    def test_each_thing_otherwise(self):
        for one, other in ((trusting(1), nots(1, 2)), (trusting(1), trusting(2)), (plain(CD, "c"), plain(CD, "d"))):
            self.spoiled(*self.row(one, other, alike(one, other, C_D)))

    def test_letters_that_are_not_the_shortest(self):
        for letters in (("c", "d"), ("d", "d"), ("c", "c", "d"), ("d",) * 2):
            self.behind(*self.row(plain(CD, "c"), trusting(1), ("unlike", letters)), True)
        for letters in ((), ("c",), ("d",), ("d", "c"), ("c", "c"), ("d", "c", "c")):
            self.behind(*self.row(plain(CD, "c"), trusting(1), ("unlike", letters)), False)
        self.behind(*self.row(plain(CD, "c"), trusting(1), ("unlike", ("d",) * 500)), True)
        # At that level: behind more letters they do alike again.
        once = Player(CD, [FALSE, ("shown", 2, 0), ("shown", 1, 0), ("not", 2), ("and", 1, 3)], [4])
        self.behind(*self.row(once, plain(CD, "d"), ("unlike", ("c", "c"))), True)
        self.behind(*self.row(once, plain(CD, "d"), ("unlike", ("c", "c", "c"))), False)

    def test_letters_that_are_not_others(self):
        for letters in (("x", "d"), ("c", None), ("c", True), ["c", "d"], "cd", None, {"c": 1, "d": 1}, (("c", "d"),)):
            self.behind(*self.row(plain(CD, "c"), trusting(1), ("unlike", letters)), False)
        self.behind(*self.row(plain(CD, "c"), trusting(1), ("unlike", ("x", "x")), ("x",)), True)

    def test_papers_that_no_finder_tells(self):
        one, other = trusting(1), nots(1, 2)
        _, pairs = alike(one, other, C_D)
        more = ((0, (F,)), (0, (F,)))
        for told in (pairs[::-1], pairs * 2, pairs + pairs[:1], pairs + (more,)):
            self.behind(*self.row(one, other, ("alike", told)), True)
        for at in range(len(pairs)):
            self.behind(*self.row(one, other, ("alike", pairs[:at] + pairs[at + 1:])), False)
        for stand in no_stands(one):
            self.behind(*self.row(one, other, ("alike", pairs + ((stand, (0, (T,))),))), False)
        self.behind(*self.row(one, trusting(2), ("alike", pairs)), False)

    def test_answers_of_other_kinds(self):
        told = alike(trusting(0), trusting(0), C_D)
        for answer in [*no_lists(), (), [], ("alike",), (*told, ()), list(told), ("alikes", told[1]),
                       ("unlike", told[1]),
                       ("alike", ()), ("alike", None), ("unlike", ()), ("unlike", None), ("row", ("d",)),
                       *other_objects()]:
            self.behind(*self.row(trusting(0), trusting(0), answer), False)

    def test_refused(self):
        answer = alike(trusting(0), trusting(0), C_D)
        for others in [*no_others(), ["c", "d"], ["c"]]:
            self.behind(*self.row(trusting(0), trusting(0), answer, others), False)
            self.behind(*self.row(plain(CD, "c"), plain(CD, "d"), ("unlike", ()), others), False)
        for thing in no_moves_names() + ["cyd"]:
            self.behind(put(ann=trusting(0)), ("alike", thing, "ann", C_D, answer), False)
            self.behind(put(ann=trusting(0)), ("alike", "ann", thing, C_D, answer), False)


class Stood(Judged):

    def test_told_ones(self):
        seed = random.Random(120)
        tables = [table()]
        for _ in range(30):
            mine, yours = seed.sample("cdef", seed.randint(1, 3)), seed.sample("cdxy", seed.randint(1, 3))
            tables.append(Table(mine, yours, {(a, b): (seed.randint(-3, 3), seed.randint(-3, 3))
                                              for a in mine for b in yours}))
        for made in tables:
            for a in made.mine():
                for b in made.yours():
                    self.behind([], ("stood", made, a, b, stood(made, a, b)), True)
                    kind = "stands" if (a, b) in standing(made) else "left"
                    self.assertEqual(stood(made, a, b)[0], kind)

    def test_each_thing_otherwise(self):
        for a, b in (("c", "c"), ("c", "d"), ("d", "c")):
            self.spoiled([], ("stood", table(), a, b, stood(table(), a, b)))

    def test_papers_that_no_finder_tells(self):
        word, one, other, ones, others = stood(table(), "c", "c")
        for told in (ones[::-1], ones * 2):
            self.behind([], ("stood", table(), "c", "c", (word, one, other, told, others)), True)
            self.behind([], ("stood", table(), "c", "c", (word, one, other, ones, told)), True)
        slow = trusting(4)
        stands = tuple((n, (T,)) for n in range(5)) + ((4, (F,)),)
        self.behind([], ("stood", table(), "c", "c", (word, slow, slow, stands, stands[::-1])), True)
        self.behind([], ("stood", table(), "c", "c", (word, slow, slow, stands, stands[1:])), False)
        self.behind([], ("stood", table(), "c", "c", (word, plain(CD, "c"), other, ((0, ()),), others)), False)

    def test_refused(self):
        answer = stood(table(), "c", "c")
        for thing in no_moves_names() + ["x"]:
            self.behind([], ("stood", table(), thing, "c", answer), False)
            self.behind([], ("stood", table(), "c", thing, answer), False)
        for thing in [*no_lists(), [], DILEMMA, (C_D, C_D, DILEMMA), *other_objects(), some_player()]:
            self.behind([], ("stood", thing, "c", "c", answer), False)
        for thing in [*no_lists(), *no_numbers(), *other_objects(), ("left", 0, 1), ("left", 1, 3)]:
            self.behind([], ("stood", table(), "c", "c", thing), False)


class Houses(Judged):

    def test_what_a_house_did(self):
        seed = random.Random(121)
        for _ in range(12):
            house, record = House(), []
            for _ in range(8):
                name = seed.choice(["ann", "bob", "cyd"])
                player = seed.choice([trusting(0), nots(1, 2), till(2), password("c", "d"),
                                      plainly.some_player(seed, 9, 3, C_D)])
                deed = ("drop", name) if name in house.names() and seed.randrange(3) == 0 else ("put", name, player)
                house.do(deed)
                record.append(deed)
                rows = finders_rows(house)
                record += seed.sample(rows, min(3, len(rows)))
            self.judged(record, None)
            # With one row left out or another one put in its place the first one that isn't so is told.
            for at in range(len(record)):
                told = judged(record[:at] + [("drop", "zed")] + record[at + 1:])
                self.assertEqual(told, at)

    def test_never_both(self):
        # [2](b): of each pair either letters or stands are let by.
        seed = random.Random(122)
        for _ in range(30):
            player = plainly.some_player(seed, 14, 3, ("c", "d", "e"))
            found = tuple(plainly.come_to(player, CD)) if len(player.showns()) <= 5 else None
            if found is None:
                continue
            for mine in player.moves():
                for yours in CD:
                    is_so = judged(put(ann=player) + [("brought", "ann", C_D, mine, yours, ("never", found))]) is None
                    kind, letters = brought(player, CD, mine, yours)
                    self.assertEqual(is_so, kind == "never")
                    if kind == "row":
                        self.judged(put(ann=player) + [("brought", "ann", C_D, mine, yours,
                                                        (kind, letters + (yours,)))],
                                    None)

    def test_each_thing_otherwise_of_some(self):
        seed = random.Random(123)
        kinds, still = set(), 0
        while len(kinds) < 6 or still < 20:
            player, other = (plainly.some_player(seed, seed.randrange(4, 14), 2, C_D) for _ in range(2))
            if len(player.showns()) + len(other.showns()) > 4:
                continue
            record = put(ann=player, bob=other)
            for row in seed.sample(finders_rows(players_of(record)), 3):
                kinds.add(row[-1][0] if row[0] != "last" else "last")
                still += self.spoiled(record, row)
            made = Table(CD, CD, {(a, b): (seed.randint(-2, 2), seed.randint(-2, 2)) for a in CD for b in CD})
            a, b = seed.choice(CD), seed.choice(CD)
            answer = stood(made, a, b)
            kinds.add(answer[0])
            still += self.spoiled([], ("stood", made, a, b, answer))
            # Any two players that are told to be kept to the pair.
            found = tuple(plainly.come_to(player, CD)), tuple(plainly.come_to(other, CD))
            row = ("stood", made, a, b, ("stands", player, other, *found))
            self.behind([], row, plainly_judged([row]) is None)

    def test_long_ones(self):
        record = put(ann=nots(99, 1500), bob=nots(99, 1900), cyd=opponent(CD, ["c"] * 99, "d"))
        house = players_of(record)
        record += [met(house, "ann", "bob", "cyd"), met(house, "ann", "cyd")]
        record.append(("alike", "ann", "bob", C_D, alike(house.player("ann"), house.player("bob"), C_D)))
        record.append(("brought", "ann", C_D, "d", "c", ("row", ("c",) * 120 + ("d",))))
        record.append(("brought", "ann", C_D, "c", "d", brought(house.player("ann"), C_D, "c", "d")))
        self.judged(record, None)
        self.judged(record + [("brought", "ann", C_D, "d", "c", ("row", ("c",) * 120))], len(record))

    def test_of_more_stands_than_may_be_sought(self):
        # Two hundred showns of their own letters: nobody could seek among what it may come to.
        rows = []
        for k in range(60):
            rows += [("does", 1, "cdef"[k % 4]), ("shown", k, len(rows))]
        rows.append(("or", 1, 3))
        for k in range(2, 60):
            rows.append(("or", len(rows) - 1, 2 * k + 1))
        player = Player(CD, rows, [len(rows) - 1])
        others = ("c", "d", "e", "f")
        self.assertEqual(len(player.showns()), 60)
        record = put(ann=player)
        for letters in (("c", "d", "e", "f") * 30, ("c",) * 70, ("f", "e") * 50):
            last = Faced(player, letters, "c").last()
            record.append(("brought", "ann", others, last, "c", ("row", letters)))
            record.append(("alike", "ann", "ann", others, ("unlike", letters)))
            self.judged(record, len(record) - 1)
            record.pop()
        record.append(met(players_of(record[:1]), "ann", "ann"))
        self.judged(record, None)


if __name__ == "__main__":
    unittest.main()
