"""Meetings: players in a ring, who look through one another level by level."""

from lookthrough.errors import NoLevel, NoPlayers, NoRow, NoSeat
from lookthrough.players import Player
from lookthrough.rows import downs, hangs_on, is_below, is_list

MOST_PLAYERS = 4
GREATEST_LEVEL = 1000000000


def own(thing):
    """The thing with its lists and dicts made anew: a refusal tells what was handed in, not what became of it."""
    if isinstance(thing, list):
        return [own(part) for part in thing]
    if isinstance(thing, tuple):
        return tuple([own(part) for part in thing])
    if isinstance(thing, dict):
        return {key: own(part) for key, part in thing.items()}
    return thing


def need_player(thing):
    """NoPlayers where this is no player."""
    if not isinstance(thing, Player):
        raise NoPlayers()


def need_players(players):
    """NoPlayers where these are no 1 to 4 players."""
    if not is_list(players) or not 1 <= len(players) <= MOST_PLAYERS:
        raise NoPlayers()
    for player in players:
        need_player(player)


def need_level(level):
    """NoLevel where this is no number of a level."""
    if not is_below(level, GREATEST_LEVEL + 1):
        raise NoLevel(own(level))


def truth_of(row, truths, done):
    """Whether a row, no shown, holds: by the rows ahead, and by what is done so many seats further on."""
    word = row[0]
    if word == "not":
        return not truths[row[1]]
    if word == "and":
        return truths[row[1]] and truths[row[2]]
    if word == "or":
        return truths[row[1]] or truths[row[2]]
    if word == "does":
        return row[1] < len(done) and done[row[1]] == row[2]
    return False


class Looker:
    """A player made ready to be led from level to level, by some of its rows.

    Some are numbers of rows, rising, among them all that these and the chosen ones hang on. What
    is held at a level is the tuple of the truths of the showns among them, rising.
    """

    def __init__(self, player, some):
        rows = player.rows()
        down = downs(rows)
        self._player = player
        self._rows = rows
        self._showns = [at for at in some if rows[at][0] == "shown"]
        # A move hangs on rows that look down; only when all moves are known the others can be told.
        self._before = [at for at in some if down[at] and rows[at][0] != "shown"]
        self._after = [at for at in some if not down[at]]

    def showns(self):
        """The rising list of the showns among its rows."""
        return list(self._showns)

    def far(self):
        """The greatest k of its showns, 0 of none."""
        return max([self._rows[at][1] for at in self._showns], default=0)

    def first(self):
        """What is held at level 0."""
        return (True,) * len(self._showns)

    def seen(self, held):
        """The truths of all rows, by their numbers, as far as what is held tells them."""
        truths = [False] * len(self._rows)
        for at, truth in zip(self._showns, held):
            truths[at] = truth
        for at in self._before:
            truths[at] = truth_of(self._rows[at], truths, ())
        return truths

    def move(self, truths):
        """What it does where its rows that look down have these truths."""
        moves = self._player.moves()
        for at, move in zip(self._player.chosen(), moves):
            if truths[at]:
                return move
        return moves[-1]

    def fill(self, truths, done):
        """Puts the truths that are left into those seen, where this is done by itself and further on."""
        for at in self._after:
            truths[at] = truth_of(self._rows[at], truths, done)

    def led(self, truths, level):
        """What is held at the next level, by the truths of all rows at this one."""
        held = []
        for at in self._showns:
            _, k, i = self._rows[at]
            held.append(truths[at] and (level < k or truths[i]))
        return tuple(held)


def chosen_looker(player):
    """A looker by the rows that the player's moves hang on: its showns are the player's."""
    return Looker(player, hangs_on(player.rows(), player.chosen()))


def ring_from(moves, seat):
    """The moves of all seats, that of this one first."""
    return moves[seat:] + moves[:seat]


def step(lookers, line, level):
    """What is done at a level at which these, seat by seat, are held; and what is at the next one."""
    sights = [looker.seen(held) for looker, held in zip(lookers, line)]
    moves = tuple([looker.move(truths) for looker, truths in zip(lookers, sights)])
    following = []
    for seat, looker in enumerate(lookers):
        looker.fill(sights[seat], ring_from(moves, seat))
        following.append(looker.led(sights[seat], level))
    return moves, tuple(following)


def first_line(lookers):
    """What is held at level 0, seat by seat."""
    return tuple([looker.first() for looker in lookers])


def went(lookers):
    """The moves level by level till nothing changes, and by seat and shown the level at which it falls."""
    far = max([looker.far() for looker in lookers])
    line, level = first_line(lookers), 0
    moves, falls = [], [{} for _ in lookers]
    while True:
        done, following = step(lookers, line, level)
        moves.append(done)
        # Behind every k a line tells the next one alone, so one that comes twice comes for ever.
        if level >= far and following == line:
            return moves, falls
        level += 1
        for seat, looker in enumerate(lookers):
            for at, was, is_held in zip(looker.showns(), line[seat], following[seat]):
                if was and not is_held:
                    falls[seat][at] = level
        line = following


def held_at(falls, some, level):
    """The truths of some showns at a level, by the levels at which they fall."""
    return tuple([at not in falls or level < falls[at] for at in some])


def stays_from(moves):
    """The first place from which on all are like the last one."""
    at = len(moves) - 1
    while at > 0 and moves[at - 1] == moves[-1]:
        at -= 1
    return at


class Meeting:
    """Players at seats in a ring: what each does at every level, and at last."""

    def __init__(self, players):
        need_players(players)
        self._players = tuple(players)
        # Also by rows on which no move hangs: holds tells of any.
        self._lookers = tuple([Looker(player, list(range(len(player.rows())))) for player in players])
        self._moves, self._falls = went(self._lookers)

    def moves_at(self, level):
        """The tuple of the moves of a level, seat by seat."""
        need_level(level)
        return self._moves[min(level, len(self._moves) - 1)]

    def holds(self, seat, row, level):
        """Whether a row of the player at a seat holds at a level."""
        if not is_below(seat, len(self._players)):
            raise NoSeat(own(seat))
        if not is_below(row, len(self._players[seat].rows())):
            raise NoRow(own(row))
        need_level(level)
        looker = self._lookers[seat]
        truths = looker.seen(held_at(self._falls[seat], looker.showns(), level))
        looker.fill(truths, ring_from(self.moves_at(level), seat))
        return truths[row]

    def stays(self):
        """The least level from which on the moves are the same."""
        return stays_from(self._moves)

    def last(self):
        """The tuple of the moves that stay."""
        return self._moves[-1]

    def paper(self):
        """The tuple of the lines from level 0 to the first that stays, at the greatest top or later."""
        showns = [player.showns() for player in self._players]
        end = max([player.top() for player in self._players])
        for falls, some in zip(self._falls, showns):
            end = max([end] + [falls[at] for at in some if at in falls])
        lines = []
        for level in range(end + 1):
            lines.append(tuple([held_at(falls, some, level) for falls, some in zip(self._falls, showns)]))
        return tuple(lines)


def is_line(thing, line):
    """Whether it is this line: what is equal to it may still have numbers for truths."""
    return thing == line and all([isinstance(truth, bool) for held in thing for truth in held])


def shows_last(players, paper, moves):
    """Whether the paper is that of a meeting of these players, and the moves those that it does at last."""
    need_players(players)
    if not isinstance(paper, tuple):
        return False
    lookers = [chosen_looker(player) for player in players]
    top = max([looker.far() for looker in lookers])
    line = first_line(lookers)
    for level, told in enumerate(paper):
        if not is_line(told, line):
            return False
        done, following = step(lookers, line, level)
        if level >= top and following == line:
            return level == len(paper) - 1 and moves == done
        line = following
    return False
