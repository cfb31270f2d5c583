"""The house: players by names, deeds that are done and taken back, and questions whose answers are kept."""

from lookthrough.alikes import alike
from lookthrough.endings import brought
from lookthrough.errors import NoDeed, NoName
from lookthrough.machines import machine_of
from lookthrough.meetings import MOST_PLAYERS, Meeting, own
from lookthrough.players import Player
from lookthrough.rows import is_list, is_move
from lookthrough.worths import Table, best

# How many things the questions have, and which of these are names, the word itself being 0.
QUESTIONS = {"last": 2, "brought": 5, "alike": 4, "machine": 3, "best": 3}
NAMES_UP_TO = {"brought": 1, "alike": 2, "machine": 1, "best": 1}


def is_deed(thing):
    """Whether it is of the form of a put or a drop."""
    if not is_list(thing) or not 2 <= len(thing) <= 3 or not is_move(thing[1]):
        return False
    if len(thing) == 3:
        return thing[0] == "put" and isinstance(thing[2], Player)
    return thing[0] == "drop"


def lacks(players, deed):
    """Whether a deed drops somebody who isn't there."""
    return deed[0] == "drop" and deed[1] not in players


def tupled(thing):
    """The thing with tuples for lists, however deep."""
    if is_list(thing):
        return tuple([tupled(part) for part in thing])
    return thing


def names_of(question):
    """The names that a question of the right length has, each in the place of a name."""
    if question[0] == "last":
        return list(question[1])
    return list(question[1:NAMES_UP_TO[question[0]] + 1])


def is_question(thing):
    """Whether it is of the form of a question, whoever is there."""
    if not is_list(thing) or len(thing) == 0 or not isinstance(thing[0], str):
        return False
    word = thing[0]
    if QUESTIONS.get(word) != len(thing):
        return False
    if word == "last" and (not is_list(thing[1]) or not 1 <= len(thing[1]) <= MOST_PLAYERS):
        return False
    if word == "best" and not isinstance(thing[2], Table):
        return False
    return all([is_move(name) for name in names_of(thing)])


def answered(question, players):
    """The answer to a question, of the players that its names have, in order."""
    word = question[0]
    if word == "last":
        return Meeting(players).last()
    if word == "brought":
        _, _, others, mine, yours = question
        return brought(players[0], others, mine, yours)
    if word == "alike":
        return alike(players[0], players[1], question[3])
    if word == "machine":
        return machine_of(players[0], question[2])
    return best(question[2], players[0])


class House:
    """Players by names; each answer is kept as long as what it hangs on stays."""

    def __init__(self):
        self._players = {}
        # For each deed that stands whose it was, and who was there ahead of it, None of nobody.
        self._befores = []
        # Pairs: a question, its answer.
        self._kept = []
        self._made = []
        self._calls = 0

    def _change(self, name, player):
        """Puts a player in a name's place, None for nobody; what is kept of another one is let go."""
        before = self._players.get(name)
        if player is None:
            self._players.pop(name, None)
        else:
            self._players[name] = player
        if before != player:
            self._kept = [(asked, answer) for asked, answer in self._kept if name not in names_of(asked)]

    def _stand(self, deed):
        """Does a deed that isn't refused."""
        name = deed[1]
        self._befores.append((name, self._players.get(name)))
        self._change(name, deed[2] if deed[0] == "put" else None)

    def do(self, deed):
        """Does a deed."""
        self._calls += 1
        if not is_deed(deed):
            raise NoDeed(0)
        if lacks(self._players, deed):
            raise NoName(deed[1])
        self._stand(deed)

    def back(self):
        """Takes the last deed that stands back; whether there was one."""
        self._calls += 1
        if len(self._befores) == 0:
            return False
        name, before = self._befores.pop()
        self._change(name, before)
        return True

    def all_done(self, deeds):
        """Does all these deeds, or, where one is refused, none."""
        self._calls += 1
        if not is_list(deeds):
            raise NoDeed(0)
        there = {name: True for name in self._players}
        for at, deed in enumerate(deeds):
            if not is_deed(deed) or lacks(there, deed):
                raise NoDeed(at)
            if deed[0] == "put":
                there[deed[1]] = True
            else:
                there.pop(deed[1])
        for deed in deeds:
            self._stand(deed)

    def names(self):
        """The rising list of the names."""
        return sorted(list(self._players))

    def player(self, name):
        """The player of a name."""
        if not is_move(name) or name not in self._players:
            raise NoName(own(name))
        return self._players[name]

    def ask(self, question):
        """The answer to a question, kept or reckoned anew."""
        if not is_question(question):
            raise NoDeed(0)
        asked = tupled(question)
        players = [self.player(name) for name in names_of(asked)]
        for kept, answer in self._kept:
            if kept == asked:
                return answer
        answer = answered(asked, players)
        self._kept.append((asked, answer))
        self._made.append(asked)
        return answer

    def made(self):
        """The list of the questions that were reckoned and answered."""
        return list(self._made)

    def log(self):
        """The list of the begins and ends of all that was done or refused."""
        return [(word, k) for k in range(1, self._calls + 1) for word in ("begin", "end")]

    def twin(self):
        """Another house with all that is in this one; from here on neither hears of the other's."""
        other = House()
        other._players = dict(self._players)
        other._befores = list(self._befores)
        other._kept = list(self._kept)
        other._made = list(self._made)
        other._calls = self._calls
        return other
