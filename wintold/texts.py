"""Leagues and points as texts, there and back."""

from wintold.errors import NoPoints, NoText
from wintold.kinds import is_whole
from wintold.leagues import FEWEST_PLAYERS, MOST_PLAYERS, check_league, is_league

FIGURES = "0123456789"
SIGNS = "<=>"


def show_league(league):
    """Write a league: its kind, how many players, and each match played."""
    check_league(league)
    kind, n, played = league
    return " ".join([kind, str(n)] + [show_match(i, j, w) for i, j, w in played])


def read_league(text):
    """Read back what show_league writes."""
    words = _words_of(text)
    if len(words) < 2 or not is_number(words[1]):
        raise NoText("a league is written as its kind, its number of players and its matches played")
    league = (words[0], int(words[1]), [read_match(word) for word in words[2:]])
    if not is_league(league):
        raise NoText("what is written is no league")
    return league


def show_points(points):
    """Write points: a list of two to six whole numbers."""
    if type(points) != list or not FEWEST_PLAYERS <= len(points) <= MOST_PLAYERS:
        raise NoPoints("points are a list for two to six players")
    for one in points:
        if not is_whole(one):
            raise NoPoints("each player's points are a whole number")
    return " ".join([str(one) for one in points])


def read_points(text):
    """Read back what show_points writes."""
    words = _words_of(text)
    if not FEWEST_PLAYERS <= len(words) <= MOST_PLAYERS:
        raise NoText("points are written for two to six players")
    for word in words:
        if not is_number(word):
            raise NoText("each player's points are written as a whole number")
    return [int(word) for word in words]


def _words_of(text):
    """List what stands between the blanks of a text, or refuse what is no text."""
    if type(text) != str:
        raise NoText("this is no text")
    return text.split(" ")


def is_number(word):
    """Tell of a text whether it writes a whole number: it has no 0 ahead of a figure, and is not -0."""
    figures = word.removeprefix("-")
    if figures == "" or not all([figure in FIGURES for figure in figures]):
        return False
    return word == "0" or figures[0] != "0"


def show_match(i, j, w):
    """Write a match with its outcome, as 0>1."""
    if w is None:
        return f"{i}={j}"
    if w == i:
        return f"{i}>{j}"
    return f"{i}<{j}"


def read_match(word):
    """Read two figures with <, = or > between as a tuple (i, j, w); give None for any other text."""
    if len(word) != 3 or word[0] not in FIGURES or word[1] not in SIGNS or word[2] not in FIGURES:
        return None
    i = int(word[0])
    j = int(word[2])
    outcomes = {">": i, "=": None, "<": j}
    return i, j, outcomes[word[1]]
