"""Worths: what pairs of moves are worth to whoever does them, and which stand between two players."""

from lookthrough.endings import Reach, brought, endings, rests_among
from lookthrough.errors import NoMoves, NoPlayers, NoWorths
from lookthrough.facing import doer
from lookthrough.meetings import Meeting
from lookthrough.players import Player, need_moves
from lookthrough.rows import is_list, is_number

LEAST_WORTH = -1000
GREATEST_WORTH = 1000


def is_worths(thing):
    """Whether it is a pair of worths: to mine, to yours."""
    if not is_list(thing) or len(thing) != 2:
        return False
    return all([is_number(worth) and LEAST_WORTH <= worth <= GREATEST_WORTH for worth in thing])


def need_worths(mine, yours, worths):
    """NoWorths where these aren't the worths of all pairs, and of no others."""
    if not isinstance(worths, dict) or len(worths) != len(mine) * len(yours):
        raise NoWorths()
    for pair in [(a, b) for a in mine for b in yours]:
        if pair not in worths or not is_worths(worths[pair]):
            raise NoWorths()


class Table:
    """What each pair of moves is worth, to mine and to yours."""

    def __init__(self, mine, yours, worths):
        need_moves(mine)
        need_moves(yours)
        need_worths(mine, yours, worths)
        self._mine = tuple(mine)
        self._yours = tuple(yours)
        self._worths = {(a, b): tuple(worths[(a, b)]) for a in mine for b in yours}

    def __eq__(self, other):
        return (isinstance(other, Table) and self._mine == other._mine
                and self._yours == other._yours and self._worths == other._worths)

    def mine(self):
        """The tuple of the moves of mine."""
        return self._mine

    def yours(self):
        """The tuple of the moves of yours."""
        return self._yours

    def worth(self, a, b):
        """What a pair of moves is worth: to mine, to yours."""
        if a not in self._mine or b not in self._yours:
            raise NoMoves()
        return self._worths[(a, b)]

    def turned(self):
        """The table with the seats exchanged."""
        worths = {(b, a): (yours, mine) for (a, b), (mine, yours) in self._worths.items()}
        return Table(self._yours, self._mine, worths)


def floor(table):
    """What yours can't be held below, and the first move of mine that holds it there."""
    mosts = [max([table.worth(a, b)[1] for b in table.yours()]) for a in table.mine()]
    least = min(mosts)
    return (least, table.mine()[mosts.index(least)])


def floors(table):
    """The floors of both seats: of mine, of yours."""
    return (floor(table.turned())[0], floor(table)[0])


def is_player_of(thing, moves):
    """Whether it is a player of these moves."""
    return isinstance(thing, Player) and thing.moves() == moves


def best(table, player):
    """The most that a player of mine can be brought to let yours have at last: by which pair, and letters."""
    if not is_player_of(player, table.mine()):
        raise NoPlayers()
    pairs = endings(player, table.yours())
    worths = [table.worth(mine, yours)[1] for mine, yours in pairs]
    most = max(worths)
    mine, yours = pairs[worths.index(most)]
    _, letters = brought(player, table.yours(), mine, yours)
    return (most, (mine, yours), letters)


def left(table, a, b):
    """Who would rather be another one: the first seat to which a pair is worth less than its floor; or None."""
    worths = table.worth(a, b)
    for seat, least in enumerate(floors(table)):
        if worths[seat] < least:
            return ("left", seat, least)
    return None


def standing(table):
    """The pairs that are worth their floors to both seats, in order."""
    return [(a, b) for a in table.mine() for b in table.yours() if left(table, a, b) is None]


def keeper(table, a, b):
    """A player of mine that does a as long as b is done, and else for ever what holds yours to its floor."""
    rows = [("false",), ("does", 1, b), ("shown", 0, 1), ("not", 2)]
    return doer(table.mine(), rows, [(2, a), (3, floor(table)[1])])


def all_stands(player, others):
    """The rising tuple of the stands that a player comes to by letters of others."""
    return tuple(sorted(Reach(player, others).stands()))


def stood(table, a, b):
    """Two players between whom a pair stands, with papers; or who would rather be another one."""
    gone = left(table, a, b)
    if gone is not None:
        return gone
    one, other = keeper(table, a, b), keeper(table.turned(), b, a)
    return ("stands", one, other, all_stands(one, table.yours()), all_stands(other, table.mine()))


def holds_down(table, player, worth, stands):
    """Whether these stands show that a player of mine lets nobody of yours have more than a worth at last."""
    rests = rests_among(player, table.yours(), stands)
    return rests is not None and all([table.worth(mine, yours)[1] <= worth for mine, yours in rests])


def shows_stands(table, a, b, told):
    """Whether two players with papers, in this order, show that the pair stands between them."""
    one, other, ones, others = told
    if not is_player_of(one, table.mine()) or not is_player_of(other, table.yours()):
        return False
    if Meeting([one, other]).last() != (a, b):
        return False
    mine, yours = table.worth(a, b)
    return holds_down(table, one, yours, ones) and holds_down(table.turned(), other, mine, others)


def shows_stood(table, a, b, answer):
    """Whether the answer shows that the pair stands, or is what is told where it doesn't."""
    gone = left(table, a, b)
    if not isinstance(answer, tuple):
        return False
    if len(answer) == 5 and answer[0] == "stands":
        return shows_stands(table, a, b, answer[1:])
    return answer == gone and is_number(answer[1]) and is_number(answer[2])
