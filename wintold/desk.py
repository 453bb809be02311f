"""A desk: leagues by names, and rows of words that change them or ask about them."""

from wintold.ends import count_ends
from wintold.errors import NoName, NoRow
from wintold.firsts import can_be_first
from wintold.keeper import league_behind
from wintold.leagues import FEWEST_PLAYERS, MOST_PLAYERS, matches_left, points_had
from wintold.sure import sure_matches
from wintold.texts import is_number, read_league, read_match, show_league, show_match, show_points
from wintold.whether import first_set

LONGEST_NAME = 8
# How many figures a row may have for the points of a player, and for the player.
POINTS_FIGURES = 9
PLAYER_FIGURES = 2


class Desk:
    """Leagues by names."""

    def __init__(self):
        self._leagues = {}

    def say(self, row):
        """Do what a row says, or tell what it asks for."""
        word, name, given = _read_row(row)
        if word != "league" and name not in self._leagues:
            raise NoName("no league stands by this name")
        if word == "league":
            self._leagues[name] = read_league(given)
        elif word == "play":
            i, j, w = given
            self._leagues[name] = league_behind(self._leagues[name], i, j, w)
        elif word == "drop":
            del self._leagues[name]
        else:
            teller = TELLERS[word]
            return teller(self._leagues[name], given)
        return "ok"

    def names(self):
        """List the names by which leagues stand, in the order of letters."""
        return sorted(self._leagues)


def _read_row(row):
    """Give the word of a row, its name, and what it gives behind them."""
    if type(row) != str:
        raise NoRow("a row is a text")
    parts = row.split(" ", 2)
    if len(parts) < 2 or parts[0] not in READERS or not _is_name(parts[1]):
        raise NoRow("a row begins with a word that the desk knows, and a name")
    reader = READERS[parts[0]]
    return parts[0], parts[1], reader(parts[2:])


def _is_name(word):
    """Tell of a text whether it is one to eight small letters."""
    return 1 <= len(word) <= LONGEST_NAME and all(["a" <= letter <= "z" for letter in word])


# A reader is given what stands behind the name as a list: of one text, which
# may be empty, or of none where no blank stands behind the name.


def _read_nothing(rest):
    """Give None where the row ends with the name."""
    if rest != []:
        raise NoRow("this row ends with its name")
    return None


def _read_text(rest):
    """Give all that stands behind the blank behind the name."""
    if rest == []:
        raise NoRow("this row does not end with its name")
    return rest[0]


def _read_played(rest):
    """Give the match played, as a tuple (i, j, w)."""
    match = read_match(_read_text(rest))
    if match is None:
        raise NoRow("a match is two figures with <, = or > between")
    return match


def _read_points(rest):
    """Give the points as a list."""
    words = _read_text(rest).split(" ")
    if not FEWEST_PLAYERS <= len(words) <= MOST_PLAYERS:
        raise NoRow("points are told for two to six players")
    for word in words:
        if not is_number(word) or len(word.removeprefix("-")) > POINTS_FIGURES:
            raise NoRow("a player's points are one to nine figures, perhaps with - ahead")
    return [int(word) for word in words]


def _read_player(rest):
    """Give the player's number."""
    word = _read_text(rest)
    if not is_number(word) or "-" in word or len(word) > PLAYER_FIGURES:
        raise NoRow("a player is one or two figures")
    return int(word)


def _tell_had(league, _):
    """Tell the points that each player has."""
    return show_points(points_had(league))


def _tell_left(league, _):
    """Tell how many matches are left."""
    return str(len(matches_left(league)))


def _tell_whether(league, points):
    """Tell yes where some end brings the points, or the first set that shows that none does."""
    showing = first_set(league, points)
    if showing is None:
        return "yes"
    return " ".join([str(player) for player in showing])


def _tell_many(league, points):
    """Tell how many ends bring the points."""
    return str(count_ends(league, points))


def _tell_sure(league, points):
    """Tell the matches left that have one outcome only, as written, or none."""
    sure = sure_matches(league, points)
    if sure == []:
        return "none"
    return " ".join([show_match(i, j, w) for i, j, w in sure])


def _tell_first(league, player):
    """Tell yes or no: whether the player can be first."""
    return "yes" if can_be_first(league, player) else "no"


def _tell_writing(league, _):
    """Tell the league as written."""
    return show_league(league)


READERS = {
    "league": _read_text,
    "play": _read_played,
    "drop": _read_nothing,
    "points": _read_nothing,
    "left": _read_nothing,
    "can": _read_points,
    "many": _read_points,
    "sure": _read_points,
    "first": _read_player,
    "show": _read_nothing,
}
TELLERS = {
    "points": _tell_had,
    "left": _tell_left,
    "can": _tell_whether,
    "many": _tell_many,
    "sure": _tell_sure,
    "first": _tell_first,
    "show": _tell_writing,
}
