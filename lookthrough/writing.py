"""Players of machines: written out with no more stands than there are rows to tell apart."""

from lookthrough.endings import Reach
from lookthrough.errors import NoMoves
from lookthrough.facing import doer
from lookthrough.machines import machine_by
from lookthrough.meetings import need_player
from lookthrough.players import need_moves


class Merger:
    """A machine's rows, of which two are put together again and again, till one is left.

    Each time one at least of the two is an end: a row that all letters leave where it is. What
    they are put together to is one, too. So a single shown tells the two apart, that falls where
    the second one is come to: it goes by the rows as they are behind, and by the letter.
    """

    def __init__(self, rows):
        self._tos = {at: list(tos) for at, (_, tos) in enumerate(rows)}

    def is_done(self):
        """Whether one row alone is left."""
        return len(self._tos) == 1

    def entries(self, at):
        """By the places of letters that lead to a row, from which other rows these do."""
        found = {}
        for row, tos in self._tos.items():
            places = tuple([place for place, to in enumerate(tos) if to == at])
            if places and row != at:
                found.setdefault(places, []).append(row)
        return found

    def _froms(self):
        """From how many others each row is come to."""
        many = {at: 0 for at in self._tos}
        for at, tos in self._tos.items():
            for to in sorted(set(tos)):
                if to != at:
                    many[to] += 1
        return many

    def pair(self):
        """The two to be put together: one that stays, and an end, which goes."""
        ends = [at for at, tos in self._tos.items() if all([to == at for to in tos])]
        if len(ends) > 1:
            # The fewer rows lead to the one that goes, the fewer have to be written.
            froms = self._froms()
            ends = sorted(ends, key=lambda row: froms[row])
            return (ends[1], ends[0])
        end = ends[0]
        near = [at for at, tos in self._tos.items() if at != end and all([to in (at, end) for to in tos])]
        return (near[0], end)

    def merge(self, kept, gone):
        """Puts two together: the second one is no more, and the first one becomes an end."""
        left = {at: tos for at, tos in self._tos.items() if at != gone}
        self._tos = {at: [kept if to == gone else to for to in tos] for at, tos in left.items()}


def merges_of(rows):
    """The pairs that are put together, one after another, each with the entries of the one that goes."""
    merger = Merger(rows)
    merges = []
    while not merger.is_done():
        kept, gone = merger.pair()
        merges.append((kept, gone, merger.entries(gone)))
        merger.merge(kept, gone)
    return merges


class Writer:
    """Rows of a player that is being written: row 0 never holds, row 1 always does."""

    def __init__(self, letters):
        self._letters = tuple(letters)
        self._rows = [("false",), ("not", 0)]
        # By places of letters the row that holds where one of these is done.
        self._done = {tuple(range(len(letters))): 1}

    def rows(self):
        """The rows that are written."""
        return list(self._rows)

    def put(self, row):
        """Writes a row behind all; its number is told."""
        self._rows.append(row)
        return len(self._rows) - 1

    def both(self, one, other):
        """A row that holds where both do."""
        if one == 1:
            return other
        return one if other == 1 else self.put(("and", one, other))

    def some(self, parts):
        """A row that holds where one of these does."""
        at = parts[0]
        for part in parts[1:]:
            at = self.put(("or", at, part))
        return at

    def done(self, places):
        """A row that holds where one of the letters at these places is done."""
        if places not in self._done:
            if len(places) == 1:
                self._done[places] = self.put(("does", 1, self._letters[places[0]]))
            else:
                self._done[places] = self.some([self.done((place,)) for place in places])
        return self._done[places]


def written(letters, merges):
    """The rows that go by these merges, and by the number of a machine's row the one that holds in it."""
    writer = Writer(letters)
    first = merges[-1][0] if merges else 0
    holding = {first: 1}
    # What was put together last is told apart first.
    for kept, gone, entries in reversed(merges):
        ways = []
        for places, froms in entries.items():
            is_from = writer.some([holding[at] for at in froms])
            ways.append(writer.both(is_from, writer.done(places)))
        shown = writer.put(("shown", 0, writer.put(("not", writer.some(ways)))))
        holding[gone] = writer.put(("not", shown))
        holding[kept] = writer.both(holding[kept], shown)
    return writer.rows(), holding


def written_player(machine, moves):
    """A player of these moves that does what a least machine does, with a stand for each of its rows."""
    rows, holding = written(machine.letters(), merges_of(machine.rows()))
    marks = [(holding[at], move) for at, (move, _) in enumerate(machine.rows())]
    return doer(moves, rows, marks)


def player_of(machine, moves):
    """A player of these moves whose machine is the least one, and that comes to as many stands as this has rows."""
    least = machine.least()
    need_moves(moves)
    if not all([move in moves for move, _ in least.rows()]):
        raise NoMoves()
    return written_player(least, moves)


def smallest(player, others):
    """A player of the same moves that is alike to this one and comes to as few stands as any."""
    need_player(player)
    need_moves(others)
    reach = Reach(player, others)
    machine = machine_by(reach, others)
    if len(reach.stands()) == len(machine.rows()):
        return player
    return written_player(machine, player.moves())
