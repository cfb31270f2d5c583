"""Rows: what a player goes by, each hanging on rows ahead of it alone."""

from lookthrough.errors import NoRow

LETTERS = "abcdefghijklmnopqrstuvwxyz"
LONGEST_MOVE = 8
MOST_ROWS = 2000
FARTHEST_SEAT = 3
GREATEST_SHOWN = 99
ROW_LENGTHS = {"false": 1, "does": 3, "not": 2, "and": 3, "or": 3, "shown": 3}


def is_list(thing):
    """Whether it is a list, or a tuple handed in for one."""
    return isinstance(thing, (list, tuple))


def is_number(thing):
    """Whether it is a number: a truth is none."""
    return isinstance(thing, int) and not isinstance(thing, bool)


def is_below(thing, bound):
    """Whether it is a number from 0 on that is less than the bound."""
    return is_number(thing) and 0 <= thing < bound


def is_move(thing):
    """Whether it is a name: 1 to 8 small letters."""
    if not isinstance(thing, str) or not 1 <= len(thing) <= LONGEST_MOVE:
        return False
    return all([sign in LETTERS for sign in thing])


def parts_of(row):
    """The numbers of the rows ahead that a row names."""
    if row[0] == "shown":
        return row[2:]
    if row[0] in ("not", "and", "or"):
        return row[1:]
    return ()


def is_row(thing, at):
    """Whether it may stand as the row of this number."""
    if not isinstance(thing, tuple) or not thing or not isinstance(thing[0], str):
        return False
    word = thing[0]
    if ROW_LENGTHS.get(word) != len(thing):
        return False
    if word == "does":
        return is_below(thing[1], FARTHEST_SEAT + 1) and is_move(thing[2])
    if word == "shown" and not is_below(thing[1], GREATEST_SHOWN + 1):
        return False
    return all([is_below(part, at) for part in parts_of(thing)])


def need_rows(rows):
    """NoRow where these are no rows."""
    if not is_list(rows):
        raise NoRow(0)
    for at, row in enumerate(rows[:MOST_ROWS]):
        if not is_row(row, at):
            raise NoRow(at)
    if len(rows) > MOST_ROWS:
        raise NoRow(MOST_ROWS)


def need_some(rows, some):
    """NoRow where these are no numbers of rows."""
    if not is_list(some):
        raise NoRow(0)
    for place, at in enumerate(some):
        if not is_below(at, len(rows)):
            raise NoRow(place)


def downs(rows):
    """For each of these rows whether it looks down."""
    # Each row names rows ahead alone, so one walk settles all, however long a chain is.
    down = []
    for row in rows:
        if row[0] == "shown":
            down.append(True)
        else:
            down.append(row[0] != "does" and all([down[part] for part in parts_of(row)]))
    return down


def looks_down(rows, at):
    """Whether the row hangs on what is shown alone, not on what is done now."""
    need_rows(rows)
    if not is_number(at):
        raise NoRow(0)
    if not 0 <= at < len(rows):
        raise NoRow(at)
    return downs(rows[:at + 1])[at]


def hangs_on(rows, some):
    """The rising list of some rows and all that they hang on, through whatever."""
    need_rows(rows)
    need_some(rows, some)
    hung = [False] * len(rows)
    for at in some:
        hung[at] = True
    # From the last row back: whatever hangs on a row has been seen when it is come to.
    for at in reversed(range(len(rows))):
        if hung[at]:
            for part in parts_of(rows[at]):
                hung[part] = True
    return [at for at in range(len(rows)) if hung[at]]


def showns(rows, some):
    """The rising list of the showns among some rows and all that they hang on."""
    return [at for at in hangs_on(rows, some) if rows[at][0] == "shown"]
