"""Facing letters: a player alone with what is done level by level, and players that do just that."""

from lookthrough.errors import NoLetter, TooLong
from lookthrough.meetings import chosen_looker, need_level, need_player, stays_from
from lookthrough.players import Player, need_moves
from lookthrough.rows import is_list, is_move

MOST_LETTERS = 99


def need_word(word, are_let):
    """NoLetter where one of these letters is none of those that are let."""
    if not is_list(word):
        raise NoLetter(0)
    for at, letter in enumerate(word):
        if not are_let(letter):
            raise NoLetter(at)


def need_letters(letters, tail, are_let):
    """NoLetter where one of the letters, or the tail behind them, is none of those that are let."""
    need_word([*letters, tail] if is_list(letters) else letters, are_let)


def moves_facing(player, letters, tail):
    """Its moves level by level, facing these, till nothing changes any more."""
    looker = chosen_looker(player)
    far = max(looker.far(), len(letters))
    held, level = looker.first(), 0
    moves = []
    while True:
        letter = letters[level] if level < len(letters) else tail
        truths = looker.seen(held)
        moves.append(looker.move(truths))
        looker.fill(truths, (moves[-1], letter))
        following = looker.led(truths, level)
        if level >= far and following == held:
            return moves
        held = following
        level += 1


class Faced:
    """A player at seat 0 of two, where at seat 1 letters are done, then a tail for ever."""

    def __init__(self, player, letters, tail):
        need_player(player)
        need_letters(letters, tail, is_move)
        self._moves = moves_facing(player, letters, tail)

    def move_at(self, level):
        """Its move of a level."""
        need_level(level)
        return self._moves[min(level, len(self._moves) - 1)]

    def stays(self):
        """The least level from which on its move is the same."""
        return stays_from(self._moves)

    def last(self):
        """The move that stays."""
        return self._moves[-1]


def clock_rows(many):
    """Rows of which row 3 * n + 1 holds from level n on, 3 * n + 3 at n alone, n below so many; row 0 never does."""
    rows = [("false",), ("not", 0)]
    for level in range(many):
        since = len(rows) - 1
        rows.extend([("shown", level, 0), ("and", since, since + 1), ("not", since + 1)])
    return rows


def doer(moves, rows, marks):
    """A player of these moves: of each mark (row, move) it does the move where the row holds.

    Row 0 never holds, and at each level just one mark's row does, or several of the same move.
    """
    written, chosen = list(rows), []
    for move in moves[:-1]:
        chosen.append(0)
        for at, done in marks:
            if done == move:
                written.append(("or", chosen[-1], at))
                chosen[-1] = len(written) - 1
    return Player(moves, written, chosen)


def letter_marks(letters):
    """The marks by which a player with enough clock rows does these letters, level by level."""
    return [(3 * level + 3, letter) for level, letter in enumerate(letters)]


def opponent(moves, letters, tail):
    """A player of these moves that looks at nobody and does the letters, level by level, then the tail."""
    need_moves(moves)
    need_letters(letters, tail, lambda letter: letter in moves)
    if len(letters) > MOST_LETTERS:
        raise TooLong(MOST_LETTERS)
    marks = letter_marks(letters) + [(3 * len(letters) + 1, tail)]
    return doer(moves, clock_rows(len(letters)), marks)
