"""The refusals of the program. None of them stands under another named one."""


class WinError(ValueError):
    """Any refusal."""


class NoLeague(WinError):
    """What was handed in as a league is none."""


class NoPoints(WinError):
    """What was handed in as points is no list of a whole number for each player."""


class NoNumber(WinError):
    """There is no end of that number."""


class NoEnd(WinError):
    """What was handed in is no end that brings the points."""


class NoMatch(WinError):
    """There is no such match, or none is left to take back."""


class NoOutcome(WinError):
    """The match can't have that outcome."""


class NoPlayer(WinError):
    """There is no such player."""


class TooMany(WinError):
    """There are more than are told in one list."""


class NoText(WinError):
    """The text writes nothing of the kind that was asked for."""


class NoName(WinError):
    """No league stands by that name."""


class NoRow(WinError):
    """The desk knows no such row."""
