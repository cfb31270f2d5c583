"""What DOC.md says of records, gone through by its words alone, however slowly."""

from lookthrough.players import Player
from lookthrough.worths import Table
import plainly


def is_name(thing):
    return type(thing) is str and 1 <= len(thing) <= 8 and all("a" <= sign <= "z" for sign in thing)


def are_moves(thing):
    return (type(thing) is tuple and 1 <= len(thing) <= 4 and all(is_name(move) for move in thing)
            and len(set(thing)) == len(thing))


def is_stand(thing, player):
    if type(thing) is not tuple or len(thing) != 2 or type(thing[0]) is not int or type(thing[1]) is not tuple:
        return False
    return (0 <= thing[0] <= player.top() and len(thing[1]) == len(player.showns())
            and all(type(truth) is bool for truth in thing[1]))


def first(player):
    return (0, (True,) * len(player.showns()))


def closed(things, start, leads):
    """Whether the first one is among them, and all to which one of them leads."""
    return start in things and all(to in things for thing in things for to in leads(thing))


def rests(player, stand, letter):
    return stand[0] == player.top() and plainly.led_from(player, stand, letter) == stand


def is_paper(player, others, stands, is_let):
    """Whether these are all the stands there are, and each that rests by a letter is let."""
    if type(stands) is not tuple or not all(is_stand(stand, player) for stand in stands):
        return False
    if not closed(stands, first(player), lambda stand: [plainly.led_from(player, stand, letter) for letter in others]):
        return False
    return all(is_let(plainly.move_in(player, stand), letter) for stand in stands for letter in others
               if rests(player, stand, letter))


def are_letters(thing, others):
    return type(thing) is tuple and all(is_name(letter) and letter in others for letter in thing)


def is_pair(thing):
    return type(thing) is tuple and len(thing) == 2 and type(thing[0]) is str


def last_so(players, names, paper, moves):
    if type(names) is not tuple or not 1 <= len(names) <= 4:
        return False
    if not all(is_name(name) and name in players for name in names):
        return False
    met = plainly.Plainly([players[name] for name in names])
    # Numbers aren't truths: what is written must be the same, too.
    return (repr(paper) == repr(met.paper()) and repr(moves) == repr(met.moves_at(met.bound() + 1)))


def brought_so(players, name, others, mine, yours, answer):
    if not is_name(name) or name not in players or not are_moves(others) or not is_pair(answer):
        return False
    player, (word, shown) = players[name], answer
    if not is_name(mine) or mine not in player.moves() or not is_name(yours) or yours not in others:
        return False
    if word == "row":
        return are_letters(shown, others) and plainly.last_facing(player, shown, yours) == mine
    return word == "never" and is_paper(player, others, shown, lambda a, b: (a, b) != (mine, yours))


def alike_so(players, name, second, others, answer):
    if not all(is_name(one) and one in players for one in (name, second)):
        return False
    if not are_moves(others) or not is_pair(answer):
        return False
    one, other, (word, shown) = players[name], players[second], answer
    if word == "unlike":
        return are_letters(shown, others) and (plainly.facing(one, shown, None).move(0, len(shown))
                                               != plainly.facing(other, shown, None).move(0, len(shown)))
    if word != "alike" or type(shown) is not tuple:
        return False
    for pair in shown:
        if type(pair) is not tuple or len(pair) != 2 or not is_stand(pair[0], one) or not is_stand(pair[1], other):
            return False
    if not closed(shown, (first(one), first(other)), lambda pair: [
            (plainly.led_from(one, pair[0], letter), plainly.led_from(other, pair[1], letter)) for letter in others]):
        return False
    return all(plainly.move_in(one, a) == plainly.move_in(other, b) for a, b in shown)


def plain_floors(table):
    mine, yours = table.mine(), table.yours()
    return (min(max(table.worth(a, b)[0] for a in mine) for b in yours),
            min(max(table.worth(a, b)[1] for b in yours) for a in mine))


def stood_so(table, a, b, answer):
    if type(table) is not Table or not is_name(a) or a not in table.mine() or not is_name(b) or b not in table.yours():
        return False
    if type(answer) is not tuple or len(answer) == 0 or type(answer[0]) is not str:
        return False
    worths = table.worth(a, b)
    if answer[0] == "left":
        told = [("left", seat, least) for seat, least in enumerate(plain_floors(table)) if worths[seat] < least]
        return bool(told) and repr(answer) == repr(told[0])
    if answer[0] != "stands" or len(answer) != 5:
        return False
    _, one, other, ones, others = answer
    if type(one) is not Player or type(other) is not Player:
        return False
    if (one.moves(), other.moves()) != (table.mine(), table.yours()):
        return False
    met = plainly.Plainly([one, other])
    if met.moves_at(met.bound() + 1) != (a, b):
        return False
    return (is_paper(one, table.yours(), ones, lambda mine, yours: table.worth(mine, yours)[1] <= worths[1])
            and is_paper(other, table.mine(), others, lambda yours, mine: table.worth(mine, yours)[0] <= worths[0]))


def is_so(players, row):
    if type(row) is not tuple or len(row) == 0 or type(row[0]) is not str:
        return False
    word, *parts = row
    if word == "put":
        return len(parts) == 2 and is_name(parts[0]) and type(parts[1]) is Player
    if word == "drop":
        return len(parts) == 1 and is_name(parts[0]) and parts[0] in players
    for told, many, asked in (("last", 3, last_so), ("brought", 5, brought_so), ("alike", 4, alike_so)):
        if word == told:
            return len(parts) == many and asked(players, *parts)
    return word == "stood" and len(parts) == 4 and stood_so(*parts)


def plainly_judged(record):
    players = {}
    for at, row in enumerate(record):
        if not is_so(players, row):
            return at
        if row[0] == "put":
            players[row[1]] = row[2]
        elif row[0] == "drop":
            del players[row[1]]
    return None
