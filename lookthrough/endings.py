"""Endings: what a player can be brought to by letters, and what it can't, with papers."""

from lookthrough.errors import NoLetter, NoMoves, NoStand
from lookthrough.meetings import chosen_looker, need_player
from lookthrough.players import need_moves
from lookthrough.rows import is_below, is_move


def is_truths(thing, many):
    """Whether it is a tuple of so many truths."""
    if not isinstance(thing, tuple) or len(thing) != many:
        return False
    return all([isinstance(part, bool) for part in thing])


def is_stand(thing, player):
    """Whether it is of the form of a stand of the player, come to or not."""
    if not isinstance(thing, tuple) or len(thing) != 2:
        return False
    return is_below(thing[0], player.top() + 1) and is_truths(thing[1], len(player.showns()))


def need_stand(stand, player):
    """NoStand where this is no stand of the player."""
    if not is_stand(stand, player):
        raise NoStand()


class Walker:
    """A player made ready to be led from stand to stand."""

    def __init__(self, player):
        self._looker = chosen_looker(player)
        self._top = player.top()

    def first(self):
        """The stand in which the player begins."""
        return (0, self._looker.first())

    def move(self, stand):
        """What the player does in a stand."""
        return self._looker.move(self._looker.seen(stand[1]))

    def led(self, stand, letter):
        """The stand to which a stand and a letter lead."""
        level, held = stand
        truths = self._looker.seen(held)
        self._looker.fill(truths, (self._looker.move(truths), letter))
        return (min(level + 1, self._top), self._looker.led(truths, level))


def begin(player):
    """The stand in which the player begins."""
    need_player(player)
    return Walker(player).first()


def move_by(player, stand):
    """What the player does in a stand."""
    need_player(player)
    need_stand(stand, player)
    return Walker(player).move(stand)


def led(player, stand, letter):
    """The stand to which a stand and a letter lead."""
    need_player(player)
    need_stand(stand, player)
    if not is_move(letter):
        raise NoLetter(0)
    return Walker(player).led(stand, letter)


class Reach:
    """All stands that a player comes to by letters of others, numbered as their first words come."""

    def __init__(self, player, others):
        self._walker = Walker(player)
        self._others = tuple(others)
        self._stands = [self._walker.first()]
        self._words = [()]
        self._numbers = {self._stands[0]: 0}
        # By the number of a stand the numbers of those to which it leads, by the order of others.
        self._tos = []
        while len(self._tos) < len(self._stands):
            self._go_on(len(self._tos))

    def _go_on(self, at):
        """Finds where the letters lead from the stand of this number; new stands are put behind all."""
        tos = []
        for letter in self._others:
            stand = self._walker.led(self._stands[at], letter)
            if stand not in self._numbers:
                self._numbers[stand] = len(self._stands)
                self._stands.append(stand)
                self._words.append(self._words[at] + (letter,))
            tos.append(self._numbers[stand])
        self._tos.append(tos)

    def stands(self):
        """The stands: those of shorter words first, then by the order of others."""
        return list(self._stands)

    def word(self, at):
        """The first of the shortest words that lead to the stand of this number."""
        return self._words[at]

    def move(self, at):
        """What the player does in the stand of this number."""
        return self._walker.move(self._stands[at])

    def to(self, at, letter):
        """The number of the stand to which this one and a letter lead."""
        return self._tos[at][self._others.index(letter)]

    def rests(self, at, letter):
        """Whether the stand rests by a letter: one that leads to itself is at the top, too."""
        return self.to(at, letter) == at

    def rest(self, at, letter):
        """The number of the stand that rests at last where this letter alone is done."""
        while not self.rests(at, letter):
            at = self.to(at, letter)
        return at


def endings(player, others):
    """The pairs of what a player does at last and the tail that it faces then, behind any letters of others."""
    need_player(player)
    need_moves(others)
    reach = Reach(player, others)
    found = []
    for at in range(len(reach.stands())):
        found.extend([(reach.move(at), letter) for letter in others if reach.rests(at, letter)])
    return [(mine, yours) for mine in player.moves() for yours in others if (mine, yours) in found]


def need_pair(player, others, mine, yours):
    """NoPlayers or NoMoves where this is no player, or no pair of its move and one of others."""
    need_player(player)
    need_moves(others)
    if mine not in player.moves() or yours not in others:
        raise NoMoves()


def brought(player, others, mine, yours):
    """The first of the shortest letters behind which, facing the tail, it does mine at last; or all its stands."""
    need_pair(player, others, mine, yours)
    reach = Reach(player, others)
    stands = reach.stands()
    for at in range(len(stands)):
        if reach.move(reach.rest(at, yours)) == mine:
            return ("row", reach.word(at))
    return ("never", tuple(sorted(stands)))


def rests_among(player, others, stands):
    """What it does and faces where stands rest by letters of others, or None: these stands aren't all there are.

    They are where they are a tuple of stands of its form, the first one among them, and each letter
    leads from each to one of them; in any order, also one twice, also more than are come to.
    """
    if not isinstance(stands, tuple) or not all([is_stand(thing, player) for thing in stands]):
        return None
    known = set(stands)
    walker = Walker(player)
    if walker.first() not in known:
        return None
    found = []
    for stand in sorted(known):
        for letter in others:
            to = walker.led(stand, letter)
            if to not in known:
                return None
            if to == stand:
                found.append((walker.move(stand), letter))
    return found


def shows_never(player, others, mine, yours, stands):
    """Whether these stands show that no letters of others, then yours for ever, bring it to do mine at last."""
    need_pair(player, others, mine, yours)
    rests = rests_among(player, others, stands)
    return rests is not None and (mine, yours) not in rests
