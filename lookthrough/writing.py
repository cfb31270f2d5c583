"""Players of machines: written out with no more stands than there are rows to tell apart."""

from lookthrough.endings import Reach
from lookthrough.errors import NoMoves
from lookthrough.facing import doer
from lookthrough.machines import machine_by, reached
from lookthrough.meetings import need_player
from lookthrough.players import need_moves

NEVER = 0
ALWAYS = 1


class Writer:
    """Rows of a player that are being written: row 0 never holds, row 1 always does."""

    def __init__(self, letters):
        self._letters = tuple(letters)
        self._rows = [("false",), ("not", 0)]
        # By places of letters the row that holds where one of these is done.
        self._done = {tuple(range(len(letters))): ALWAYS}

    def rows(self):
        """The rows that are written."""
        return list(self._rows)

    def put(self, row):
        """Writes a row behind all; its number is told."""
        self._rows.append(row)
        return len(self._rows) - 1

    def both(self, one, other):
        """The number of a row that holds where both do."""
        if one == ALWAYS or other == NEVER:
            return other
        if other == ALWAYS or one == NEVER:
            return one
        return self.put(("and", one, other))

    def either(self, one, other):
        """The number of a row that holds where one of both does."""
        if one == NEVER or other == ALWAYS:
            return other
        if other == NEVER or one == ALWAYS:
            return one
        return self.put(("or", one, other))

    def some(self, parts):
        """The number of a row that holds where one of these does."""
        at = NEVER
        for part in parts:
            at = self.either(at, part)
        return at

    def done(self, places):
        """The number of a row that holds where one of the letters at these places is done."""
        if places not in self._done:
            if len(places) == 1:
                self._done[places] = self.put(("does", 1, self._letters[places[0]]))
            else:
                self._done[places] = self.some([self.done((place,)) for place in places])
        return self._done[places]


def in_order(rows):
    """The numbers of a machine's rows, each ahead of all others to which ways lead from it."""
    # From where a way leads no way comes back, so all that is reached from there is less.
    return sorted(list(range(len(rows))), key=lambda at: -len(reached(rows, at)))


def entries(rows, at, froms):
    """By the places of letters that lead to a row, from which of some rows these do."""
    found = {}
    for row in froms:
        places = tuple([place for place, to in enumerate(rows[row][1]) if to == at])
        if places:
            found.setdefault(places, []).append(row)
    return found


def written(letters, rows):
    """The writer of a player that goes by these rows of a machine, and for each the row that holds in it.

    For each row but the last, in order, a shown tells whether it or one ahead of it is still the
    one that the letters led to. It can go by what is shown of those ahead and by the letter alone:
    as long as it holds, whoever isn't in one of those ahead is in this row.
    """
    writer = Writer(letters)
    order = in_order(rows)
    inside, behind, stays = {}, ALWAYS, NEVER
    for at in order[:-1]:
        inside[at] = behind
        ways = []
        for places, froms in entries(rows, at, list(inside)).items():
            ways.append(writer.both(writer.some([inside[row] for row in froms]), writer.done(places)))
        # Holds where the next one is this one or one ahead, if such a one is the current one.
        stays = writer.either(stays, writer.some(ways))
        shown = writer.put(("shown", 0, stays))
        inside[at] = writer.both(behind, shown)
        behind = writer.put(("not", shown))
        stays = writer.both(stays, shown)
    inside[order[-1]] = behind
    return writer, inside


def written_player(machine, moves):
    """A player of these moves that does what a least machine does, with a stand for each of its rows."""
    writer, inside = written(machine.letters(), machine.rows())
    marks = [(inside[at], move) for at, (move, _) in enumerate(machine.rows())]
    return doer(moves, writer.rows(), marks)


def player_of(machine, moves):
    """A player of these moves whose machine is the least one, and that comes to as many stands as this has rows."""
    least = machine.least()
    need_moves(moves)
    if not all([move in moves for move, _ in least.rows()]):
        raise NoMoves()
    return written_player(least, moves)


def smallest(player, others):
    """A player of the same moves that is alike to this one and comes to as few stands as any."""
    need_player(player)
    need_moves(others)
    reach = Reach(player, others)
    machine = machine_by(reach, others)
    if len(reach.stands()) == len(machine.rows()):
        return player
    return written_player(machine, player.moves())
