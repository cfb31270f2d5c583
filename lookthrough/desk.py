"""The desk: a house that is told rows of words, and answers with rows."""

from lookthrough.errors import NoChoice, NoMachine, NoMoves, NoName, NoRow, NoText
from lookthrough.house import House
from lookthrough.meetings import MOST_PLAYERS
from lookthrough.playertexts import read_player
from lookthrough.rows import is_move

# How many words stand ahead of the moves of others, `by` the last of these.
AHEAD = {"brought": 5, "alike": 4, "machine": 3}


def joined(word, letters):
    """A word with the letters behind it, blanks between."""
    return " ".join([word, *letters])


def is_asked(words):
    """Whether these words ask something by moves of others."""
    ahead = AHEAD.get(words[0])
    if ahead is None or len(words) <= ahead or words[ahead - 1] != "by":
        return False
    return all([is_move(word) for word in words[1:]])


def is_named(words, most):
    """Whether behind the first of these words stand names, one to so many."""
    return 2 <= len(words) <= most + 1 and all([is_move(word) for word in words[1:]])


def machine_text(machine):
    """The rows of a machine."""
    return ", ".join([joined(move, [str(to) for to in tos]) for move, tos in machine.rows()])


class Desk:
    """Takes orders and questions, and whole players row by row."""

    def __init__(self):
        self._house = House()
        # Whose text is being told, None of nobody's, and its rows so far.
        self._name = None
        self._rows = []

    def say(self, row):
        """The answer to a row."""
        if self._name is not None and row != "over":
            self._rows.append(row)
            return ".."
        words = row.split(" ")
        if self._name is None and words[0] == "player" and is_named(words, 1):
            self._name = words[1]
            self._rows = []
            return ".."
        try:
            return self._over() if self._name is not None else self._told(words)
        except NoText as wrong:
            return f"no row {wrong.row}"
        except NoRow:
            return "refused norow"
        except NoMoves:
            return "refused nomoves"
        except NoChoice:
            return "refused nochoice"
        except NoName:
            return "refused noname"
        except NoMachine:
            return "refused nomachine"

    def _over(self):
        """Reads the text that was told, and puts its player in the name's place."""
        name, rows = self._name, self._rows
        self._name = None
        self._rows = []
        self._house.do(("put", name, read_player("".join([row + "\n" for row in rows]))))
        return "ok"

    def _told(self, words):
        """The answer to an order or a question."""
        word = words[0]
        if words == ["back"]:
            return "ok" if self._house.back() else "none"
        if word == "drop" and is_named(words, 1):
            self._house.do(("drop", words[1]))
            return "ok"
        if word == "last" and is_named(words, MOST_PLAYERS):
            return " ".join(self._house.ask(("last", words[1:])))
        if is_asked(words):
            return self._asked(words)
        return "what"

    def _asked(self, words):
        """The answer to a question that has moves of others."""
        word, ahead = words[0], AHEAD[words[0]]
        others = words[ahead:]
        if word == "brought":
            name, mine, yours = words[1:4]
            kind, letters = self._house.ask((word, name, others, mine, yours))
            return "never" if kind == "never" else joined("by", letters)
        if word == "alike":
            kind, letters = self._house.ask((word, words[1], words[2], others))
            return "alike" if kind == "alike" else joined("unlike", letters)
        return machine_text(self._house.ask((word, words[1], others)))
