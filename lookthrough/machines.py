"""Machines: rows of a move each, from which letters lead on; what a player does, without the player."""

from lookthrough.endings import Reach
from lookthrough.errors import NoMachine
from lookthrough.facing import need_word
from lookthrough.meetings import need_player
from lookthrough.players import need_moves
from lookthrough.rows import is_below, is_list, is_move

MOST_MACHINE_ROWS = 400


def is_machine_row(thing, letters, many):
    """Whether it may stand as a row of a machine of these letters and so many rows."""
    if not isinstance(thing, tuple) or len(thing) != 2:
        return False
    move, tos = thing
    if not is_move(move) or not isinstance(tos, tuple) or len(tos) != len(letters):
        return False
    return all([is_below(to, many) for to in tos])


def reached(rows, at):
    """The numbers of the rows to which ways lead from this one, itself the first."""
    found = {at: True}
    fresh = [at]
    while fresh:
        for to in rows[fresh.pop()][1]:
            if to not in found:
                found[to] = True
                fresh.append(to)
    return list(found)


def comes_back(rows, at):
    """Whether a way leads from this row to another one and back."""
    return any([at in rows[row][1] for row in reached(rows, at) if row != at])


def need_machine(letters, rows):
    """NoMachine where these are no rows of a machine, or a way among them comes back."""
    if not is_list(rows) or len(rows) == 0:
        raise NoMachine(0)
    for at, row in enumerate(rows[:MOST_MACHINE_ROWS]):
        if not is_machine_row(row, letters, len(rows)):
            raise NoMachine(at)
    if len(rows) > MOST_MACHINE_ROWS:
        raise NoMachine(MOST_MACHINE_ROWS)
    for at in range(len(rows)):
        if comes_back(rows, at):
            raise NoMachine(at)


def numbered(keys):
    """For each key a number, the same one for equal ones."""
    numbers = {}
    for key in keys:
        if key not in numbers:
            numbers[key] = len(numbers)
    return [numbers[key] for key in keys]


def kinds_of(rows):
    """For each row a number, the same one just for rows that do alike behind each word."""
    kinds = numbered([move for move, _ in rows])
    while True:
        # Rows of a kind that one letter leads to two kinds are parted, till there are none.
        finer = numbered([(kind, *[kinds[to] for to in tos]) for kind, (_, tos) in zip(kinds, rows)])
        if max(finer) == max(kinds):
            return kinds
        kinds = finer


def least_rows(rows):
    """The fewest rows that do alike from row 0 on, numbered as their first words come."""
    kinds = kinds_of(rows)
    numbers = {kinds[0]: 0}
    # For each row that is told one of those that it stands for.
    firsts = [0]
    least = []
    while len(least) < len(firsts):
        move, tos = rows[firsts[len(least)]]
        for to in tos:
            if kinds[to] not in numbers:
                numbers[kinds[to]] = len(firsts)
                firsts.append(to)
        least.append((move, tuple([numbers[kinds[to]] for to in tos])))
    return least


class Machine:
    """Begins in row 0, and goes by letters from row to row, never back to one that it left."""

    def __init__(self, letters, rows):
        need_moves(letters)
        need_machine(letters, rows)
        self._letters = tuple(letters)
        self._rows = tuple(rows)

    def __eq__(self, other):
        return isinstance(other, Machine) and self._letters == other._letters and self._rows == other._rows

    def letters(self):
        """The tuple of its letters."""
        return self._letters

    def rows(self):
        """The tuple of its rows."""
        return self._rows

    def does(self, word):
        """The move of the row that these letters lead to."""
        need_word(word, lambda letter: letter in self._letters)
        at = 0
        for letter in word:
            at = self._rows[at][1][self._letters.index(letter)]
        return self._rows[at][0]

    def least(self):
        """The machine of the fewest rows that does alike."""
        return Machine(self._letters, least_rows(self._rows))


def machine_by(reach, letters):
    """The least machine that does what is done in the stands that are come to by these letters."""
    rows = []
    for at in range(len(reach.stands())):
        rows.append((reach.move(at), tuple([reach.to(at, letter) for letter in letters])))
    return Machine(letters, least_rows(rows))


def machine_of(player, others):
    """The least machine that does behind each word of others what the player, facing it, does then."""
    need_player(player)
    need_moves(others)
    return machine_by(Reach(player, others), others)
