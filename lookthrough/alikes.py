"""Alike players: two that whoever looks can't tell apart, or letters behind which they part."""

from lookthrough.endings import Walker, is_stand
from lookthrough.errors import NoMoves, TooLong
from lookthrough.facing import MOST_LETTERS, clock_rows, doer, letter_marks
from lookthrough.meetings import need_player
from lookthrough.players import need_moves


class Both:
    """Two players made ready to be led by the same letters, from pair to pair of their stands."""

    def __init__(self, one, other):
        self._one = Walker(one)
        self._other = Walker(other)

    def first(self):
        """The pair in which they begin."""
        return (self._one.first(), self._other.first())

    def moves(self, pair):
        """What they do in a pair."""
        return (self._one.move(pair[0]), self._other.move(pair[1]))

    def do_alike(self, pair):
        """Whether both do the same in a pair."""
        mine, yours = self.moves(pair)
        return mine == yours

    def led(self, pair, letter):
        """The pair to which a pair and a letter lead."""
        return (self._one.led(pair[0], letter), self._other.led(pair[1], letter))

    def behind(self, letters):
        """The pair to which these letters lead from the first one."""
        pair = self.first()
        for letter in letters:
            pair = self.led(pair, letter)
        return pair


def need_two(one, other, others):
    """NoPlayers or NoMoves where these are no two players, or no moves of others."""
    need_player(one)
    need_player(other)
    need_moves(others)


def alike(one, other, others):
    """All pairs of stands that both come to, where they do alike; or the first shortest letters behind which not."""
    need_two(one, other, others)
    both = Both(one, other)
    words = {both.first(): ()}
    fresh = [both.first()]
    while fresh:
        following = []
        for pair in fresh:
            if not both.do_alike(pair):
                return ("unlike", words[pair])
            for letter in others:
                to = both.led(pair, letter)
                if to not in words:
                    words[to] = words[pair] + (letter,)
                    following.append(to)
        fresh = following
    return ("alike", tuple(sorted(words)))


def is_pair(thing, one, other):
    """Whether it is a pair of stands of their forms, come to or not."""
    if not isinstance(thing, tuple) or len(thing) != 2:
        return False
    return is_stand(thing[0], one) and is_stand(thing[1], other)


def shows_alike(one, other, others, pairs):
    """Whether these pairs of stands show that the two do alike behind all letters of others."""
    need_two(one, other, others)
    if not isinstance(pairs, tuple) or not all([is_pair(thing, one, other) for thing in pairs]):
        return False
    known = set(pairs)
    both = Both(one, other)
    if both.first() not in known:
        return False
    for pair in sorted(known):
        if not both.do_alike(pair) or not all([both.led(pair, letter) in known for letter in others]):
            return False
    return True


def parter(one, other, others):
    """An opponent of these moves that does unlike moves at last where it meets the one and the other."""
    need_two(one, other, others)
    if len(others) < 2:
        raise NoMoves()
    kind, letters = alike(one, other, others)
    if kind == "alike":
        return None
    if len(letters) > MOST_LETTERS:
        raise TooLong(MOST_LETTERS)
    both = Both(one, other)
    mine, _ = both.moves(both.behind(letters))
    many = len(letters)
    rows = clock_rows(many + 1)
    # Holds at every level but that of their parting, where it holds if the one is met; so it is
    # shown to the end just where the one is met, and till then in any case.
    rows.extend([("does", 1, mine), ("not", 3 * many + 3), ("or", len(rows), len(rows) + 1)])
    rows.append(("shown", 0, len(rows) - 1))
    met = len(rows) - 1
    rows.extend([("and", 3 * many + 1, met), ("not", met)])
    return doer(others, rows, letter_marks(letters) + [(met + 1, others[0]), (met + 2, others[1])])
