"""What DOC.md says of levels and stands, gone through by its words alone, however slowly."""

from itertools import product

from lookthrough.players import Player


class Plainly:
    """A meeting: each row's truth at each level, asked straight by [30], with what was asked kept.

    Whoever isn't a Player is a function from levels to moves.
    """

    def __init__(self, players):
        self.players = list(players)
        self.kept = {}

    def move(self, seat, level):
        player = self.players[seat]
        if not isinstance(player, Player):
            return player(level)
        for at, move in zip(player.chosen(), player.moves()):
            if self.holds(seat, at, level):
                return move
        return player.moves()[-1]

    def holds(self, seat, row, level):
        key = (seat, row, level)
        if key not in self.kept:
            self.kept[key] = self.asked(seat, row, level)
        return self.kept[key]

    def asked(self, seat, row, level):
        word, *parts = self.players[seat].rows()[row]
        if word == "false":
            return False
        if word == "does":
            k, move = parts
            many = len(self.players)
            return many > k and self.move((seat + k) % many, level) == move
        if word == "shown":
            k, i = parts
            return all(self.holds(seat, i, before) for before in range(k, level))
        truths = [self.holds(seat, i, level) for i in parts]
        return {"not": not truths[0], "and": all(truths), "or": any(truths)}[word]

    def moves_at(self, level):
        return tuple(self.move(seat, level) for seat in range(len(self.players)))

    def line(self, level):
        return tuple(tuple(self.holds(seat, at, level) for at in player.showns())
                     for seat, player in enumerate(self.players))

    def bound(self):
        """A level from which on nothing changes, by [2](a)."""
        return (max(player.top() for player in self.players)
                + sum(len(player.showns()) for player in self.players))

    def stays(self):
        told = [self.moves_at(level) for level in range(self.bound() + 2)]
        return min(at for at in range(len(told)) if len(set(told[at:])) == 1)

    def paper(self):
        level = max(player.top() for player in self.players)
        while self.line(level) != self.line(level + 1):
            level += 1
        return tuple(self.line(at) for at in range(level + 1))


def facing(player, letters, tail):
    """A meeting with whoever does these letters, then this tail."""
    return Plainly([player, lambda level: letters[level] if level < len(letters) else tail])


def far(player, letters):
    """A level from which on a player that faces these letters does the same."""
    return max(player.top(), len(letters)) + len(player.showns())


def stand_of(player, letters):
    """The stand that these letters lead to, by what is shown then; none is done behind them."""
    met = facing(player, list(letters), None)
    level = len(letters)
    return (min(level, player.top()), tuple(met.holds(0, at, level) for at in player.showns()))


def last_facing(player, letters, tail):
    """What a player does at last that faces these."""
    return facing(player, list(letters), tail).move(0, far(player, letters))


def come_to(player, others):
    """The stands that letters of others lead to, each with its first shortest letters."""
    found = {}
    fresh = [()]
    while fresh:
        behind = []
        for letters in fresh:
            stand = stand_of(player, letters)
            if stand not in found:
                found[stand] = letters
                behind.extend(letters + (letter,) for letter in others)
        fresh = behind
    return found


def words(others, most):
    """All words of others, shorter ones first, then by the order of others."""
    return [word for many in range(most + 1) for word in product(others, repeat=many)]


def some_rows(seed, many, far_k=4, moves=("c", "d", "e")):
    """Rows of all kinds, as a random source that is told its seed makes them."""
    rows = [("false",)]
    while len(rows) < many:
        word = seed.choice(["false", "does", "does", "not", "and", "or", "shown", "shown", "shown"])
        i, j = seed.randrange(len(rows)), seed.randrange(len(rows))
        rows.append({"false": ("false",), "does": ("does", seed.randrange(4), seed.choice(moves)),
                     "not": ("not", i), "and": ("and", i, j), "or": ("or", i, j),
                     "shown": ("shown", seed.randrange(far_k + 1), i)}[word])
    return rows


def some_player(seed, many, far_k=4, moves=("c", "d", "e")):
    """A player of these moves and so many rows, chosen among all that look down."""
    rows = some_rows(seed, many, far_k, moves)
    down = []
    for word, *parts in rows:
        if word in ("not", "and", "or"):
            down.append(all(down[i] for i in parts))
        else:
            down.append(word != "does")
    may = [at for at in range(len(rows)) if down[at]]
    # The later rows hang on more.
    return Player(list(moves), rows, [may[-1 - seed.randrange(min(6, len(may)))] for _ in moves[:-1]])


def rows_in(player, stand, letter):
    """Which rows hold in a stand, of its form, where this letter is done at the other seat ([60])."""
    _, truths = stand
    shown = dict(zip(player.showns(), truths))
    told = {}

    def holds(at):
        if at not in told:
            word, *parts = player.rows()[at]
            if word == "shown":
                told[at] = shown[at]
            elif word == "does":
                told[at] = (mine() if parts[0] == 0 else letter) == parts[1] and parts[0] < 2
            else:
                truths = [holds(part) for part in parts]
                told[at] = {"false": False, "not": not any(truths), "and": all(truths), "or": any(truths)}[word]
        return told[at]

    def mine():
        for at, move in zip(player.chosen(), player.moves()):
            if holds(at):
                return move
        return player.moves()[-1]

    return holds, mine


def move_in(player, stand):
    return rows_in(player, stand, None)[1]()


def led_from(player, stand, letter):
    holds, _ = rows_in(player, stand, letter)
    level, truths = stand
    after = []
    for at, truth in zip(player.showns(), truths):
        _, k, i = player.rows()[at]
        after.append(truth and (level < k or holds(i)))
    return (min(level + 1, player.top()), tuple(after))


def forms(player, most=None):
    """All stands of a player's form, come to or not."""
    truths = list(product((False, True), repeat=len(player.showns())))
    return [(level, held) for level in range(player.top() + 1) for held in truths][:most]
