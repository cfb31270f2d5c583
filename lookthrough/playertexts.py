"""Texts of players: rows of words, ended by line feeds."""

from lookthrough.errors import NoText
from lookthrough.players import Player
from lookthrough.rows import is_move

FIGURES = "0123456789"
MOST_FIGURES = 4
# The words behind the first one of each row between moves and choose.
PARTS = {
    "false": (), "does": ("number", "name"), "not": ("number",), "and": ("number", "number"),
    "or": ("number", "number"), "shown": ("number", "number"),
}


def words_text(words):
    """A row of text: the words with a blank between."""
    return " ".join([str(word) for word in words]) + "\n"


def player_text(player):
    """The text of a player."""
    rows = [("moves",) + player.moves(), *player.rows(), ("choose",) + player.chosen()]
    return "".join([words_text(row) for row in rows])


def is_figures(word):
    """Whether it is a number of 1 to 4 figures without needless noughts."""
    if not 1 <= len(word) <= MOST_FIGURES or not all([sign in FIGURES for sign in word]):
        return False
    return word == "0" or word[0] != "0"


def is_part(word, kind):
    """Whether a word is a number or a name, as it is told."""
    return is_figures(word) if kind == "number" else is_move(word)


def is_moves_row(words):
    """Whether these words are a row of moves."""
    return words[0] == "moves" and len(words) > 1 and all([is_move(word) for word in words[1:]])


def is_choose_row(words):
    """Whether these words are a row of choices."""
    return words[0] == "choose" and all([is_figures(word) for word in words[1:]])


def is_middle_row(words):
    """Whether these words are one of a player's rows."""
    kinds = PARTS.get(words[0])
    if kinds is None or len(words) != len(kinds) + 1:
        return False
    return all([is_part(word, kind) for word, kind in zip(words[1:], kinds)])


def need_form(rows):
    """NoText at the first of these rows of words that isn't so by form, at their end where choose lacks."""
    chose = False
    for at, words in enumerate(rows):
        if at == 0:
            is_so = is_moves_row(words)
        else:
            is_so = not chose and (is_middle_row(words) or is_choose_row(words))
        if not is_so:
            raise NoText(at)
        chose = words[0] == "choose"
    if not chose:
        raise NoText(len(rows))


def row_of(words):
    """The row that these words, so by form, tell."""
    kinds = PARTS[words[0]]
    parts = [int(word) if kind == "number" else word for word, kind in zip(words[1:], kinds)]
    return (words[0], *parts)


def read_player(text):
    """The player of a text."""
    if not isinstance(text, str):
        raise NoText(0)
    lines = text.split("\n")
    # Behind the last line feed stands nothing; what does stand there is a row that lacks its own.
    is_ended = lines[-1] == ""
    if is_ended:
        lines.pop()
    rows = [line.split(" ") for line in lines]
    need_form(rows)
    if not is_ended:
        raise NoText(len(rows))
    moves, chosen = rows[0][1:], [int(word) for word in rows[-1][1:]]
    return Player(moves, [row_of(words) for words in rows[1:-1]], chosen)
