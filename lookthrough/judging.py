"""The judge: which row of a record is the first that isn't so, by papers and letters alone."""

from lookthrough.alikes import Both, need_two, shows_alike
from lookthrough.endings import need_pair, shows_never
from lookthrough.errors import NoName, SightError
from lookthrough.facing import Faced
from lookthrough.meetings import shows_last
from lookthrough.players import Player
from lookthrough.rows import is_list, is_move
from lookthrough.worths import Table, shows_stood

# How many things rows have, their words counted.
LENGTHS = {"put": 3, "drop": 2, "last": 4, "brought": 6, "alike": 5, "stood": 5}


def known(players, name):
    """The player of a name."""
    if not is_move(name) or name not in players:
        raise NoName(name)
    return players[name]


def is_last_so(players, row):
    """Whether the paper shows the last moves of a meeting."""
    _, names, paper, moves = row
    if not isinstance(names, tuple):
        return False
    return shows_last([known(players, name) for name in names], paper, moves)


def are_letters(thing, others):
    """Whether it is a tuple of letters of others."""
    return isinstance(thing, tuple) and all([letter in others for letter in thing])


def is_answer(thing):
    """Whether it is a word with what shows it."""
    return isinstance(thing, tuple) and len(thing) == 2


def is_brought_so(players, row):
    """Whether letters bring a player there, or stands show that none do."""
    _, name, others, mine, yours, answer = row
    player = known(players, name)
    need_pair(player, others, mine, yours)
    if not isinstance(others, tuple) or not is_answer(answer):
        return False
    word, shown = answer
    if word == "row":
        return are_letters(shown, others) and Faced(player, shown, yours).last() == mine
    return word == "never" and shows_never(player, others, mine, yours, shown)


def is_alike_so(players, row):
    """Whether pairs of stands show that two do alike, or letters that they don't."""
    _, name, second, others, answer = row
    one, other = known(players, name), known(players, second)
    need_two(one, other, others)
    if not isinstance(others, tuple) or not is_answer(answer):
        return False
    word, shown = answer
    if word == "unlike":
        both = Both(one, other)
        return are_letters(shown, others) and not both.do_alike(both.behind(shown))
    return word == "alike" and shows_alike(one, other, others, shown)


def is_stood_so(row):
    """Whether the answer shows that a pair stands, or tells who would rather be another one."""
    _, table, a, b, answer = row
    return isinstance(table, Table) and shows_stood(table, a, b, answer)


def is_so(players, row):
    """Whether a row is so, where these players are there; what it is of may be refused."""
    if not isinstance(row, tuple) or len(row) == 0 or not isinstance(row[0], str):
        return False
    word = row[0]
    if LENGTHS.get(word) != len(row):
        return False
    if word == "put":
        return is_move(row[1]) and isinstance(row[2], Player)
    if word == "drop":
        return isinstance(known(players, row[1]), Player)
    if word == "last":
        return is_last_so(players, row)
    if word == "brought":
        return is_brought_so(players, row)
    if word == "alike":
        return is_alike_so(players, row)
    return is_stood_so(row)


def judged(record):
    """The number of the first row of a record that isn't so, or None."""
    if not is_list(record):
        return 0
    players = {}
    for at, row in enumerate(record):
        try:
            so = is_so(players, row)
        except SightError:
            so = False
        if not so:
            return at
        if row[0] == "put":
            players[row[1]] = row[2]
        elif row[0] == "drop":
            players.pop(row[1])
    return None
