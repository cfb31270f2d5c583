"""Players: their moves, their rows, and which row brings which move."""

from lookthrough.errors import NoChoice, NoMoves
from lookthrough.rows import is_below, is_list, is_move, looks_down, need_rows, showns

MOST_MOVES = 4


def need_moves(moves):
    """NoMoves where these are no 1 to 4 unlike moves."""
    if not is_list(moves) or not 1 <= len(moves) <= MOST_MOVES:
        raise NoMoves()
    if not all([is_move(move) for move in moves]):
        raise NoMoves()
    if len(set(moves)) < len(moves):
        raise NoMoves()


def need_chosen(moves, rows, chosen):
    """NoChoice where these are no rows that look down, one for each move but the last."""
    if not is_list(chosen):
        raise NoChoice(0)
    many = len(moves) - 1
    for at, row in enumerate(chosen[:many]):
        if not is_below(row, len(rows)) or not looks_down(rows, row):
            raise NoChoice(at)
    if len(chosen) != many:
        raise NoChoice(min(len(chosen), many))


class Player:
    """Does the move of its first chosen row that holds, its last move where none does."""

    def __init__(self, moves, rows, chosen):
        need_moves(moves)
        need_rows(rows)
        need_chosen(moves, rows, chosen)
        self._moves = tuple(moves)
        self._rows = tuple(rows)
        self._chosen = tuple(chosen)
        self._showns = tuple(showns(rows, chosen))

    def __eq__(self, other):
        return (isinstance(other, Player) and self._moves == other._moves
                and self._rows == other._rows and self._chosen == other._chosen)

    def moves(self):
        """The tuple of its moves."""
        return self._moves

    def rows(self):
        """The tuple of its rows."""
        return self._rows

    def chosen(self):
        """The tuple of its chosen rows' numbers."""
        return self._chosen

    def showns(self):
        """The rising list of the showns that its chosen rows hang on."""
        return list(self._showns)

    def top(self):
        """The greatest k of its showns, 0 of none."""
        return max([self._rows[at][1] for at in self._showns], default=0)


def plain(moves, move):
    """A player of these moves that does this one always."""
    need_moves(moves)
    if move not in moves:
        raise NoMoves()
    # Row 0 never holds, row 1 always does; all choices on row 0 leave the last move.
    rows = [("false",), ("not", 0)]
    return Player(moves, rows, [1 if other == move else 0 for other in moves[:-1]])
