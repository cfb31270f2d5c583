"""The refusals: each tells where, or of what, something was refused."""


class SightError(ValueError):
    """Whatever this package refuses."""


class NoRow(SightError):
    """No row, or no number of a row, stands at this place."""

    def __init__(self, at):
        self.at = at


class NoMoves(SightError):
    """These are no 1 to 4 unlike moves, or a move isn't one of them."""


class NoChoice(SightError):
    """What stands at this place of chosen rows can't be chosen, lacks or is too much."""

    def __init__(self, at):
        self.at = at


class NoPlayers(SightError):
    """This is no player, or these are no players of a meeting."""


class NoLevel(SightError):
    """This is no level."""

    def __init__(self, level):
        self.level = level


class NoSeat(SightError):
    """This is no seat of the meeting."""

    def __init__(self, seat):
        self.seat = seat


class NoText(SightError):
    """This row of a text isn't so by form."""

    def __init__(self, row):
        self.row = row


class NoLetter(SightError):
    """What stands at this place of letters is none."""

    def __init__(self, at):
        self.at = at


class NoStand(SightError):
    """This is no stand of the player."""


class NoMachine(SightError):
    """This row of a machine isn't so by form, or lies on a way that comes back."""

    def __init__(self, at):
        self.at = at


class NoWorths(SightError):
    """These are no worths of the pairs of moves."""


class NoName(SightError):
    """Nobody has this name."""

    def __init__(self, name):
        self.name = name


class NoDeed(SightError):
    """What stands at this place is no deed, or no question."""

    def __init__(self, at):
        self.at = at


class TooLong(SightError):
    """More is asked for than the most that can be written out."""

    def __init__(self, most):
        self.most = most
