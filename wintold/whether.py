"""Whether there is an end that brings some points, and the sets that show that there is none.

Some players bring at the least what they have from matches with others and the
worth of each match between two of them. Points that give no players less, and
all of them just the worth of all matches, can always be shared out among the
matches: a match moves whole points between its two players only, and such
shares meet every point that their sums allow. So only the sets are asked, at
most 63 of them, and no end is gone through.
"""

from itertools import combinations

from wintold.kinds import is_player
from wintold.leagues import check_points, matches_left, points_had, worth_of


def can_be(league, points):
    """Tell whether there is an end of the league that brings the points."""
    return first_set(league, points) is None


def set_shows(league, points, thing):
    """Tell of anything whether it is a set that shows that there is no such end."""
    check_points(league, points)
    if not _is_set(thing, league[1]):
        return False
    return _shows(worth_of(league), matches_left(league), _points_wanted(league, points), thing)


def first_set(league, points):
    """Give the first set that shows that there is no such end, or None where there is one."""
    check_points(league, points)
    n = league[1]
    worth = worth_of(league)
    left = matches_left(league)
    wanted = _points_wanted(league, points)
    for size in range(1, n + 1):
        for players in combinations(range(n), size):
            if _shows(worth, left, wanted, players):
                return list(players)
    return None


def _points_wanted(league, points):
    """List the points that each player still needs from the matches left."""
    had = points_had(league)
    return [points[player] - had[player] for player in range(len(points))]


def _is_set(thing, n):
    """Tell of anything whether it is a rising list of players, one at least, each once."""
    if type(thing) != list or thing == []:
        return False
    before = -1
    for player in thing:
        if not is_player(player, n) or player <= before:
            return False
        before = player
    return True


def _shows(worth, left, wanted, players):
    """Tell whether the players want less than the matches left between them bring.

    A played match between two of them brings its worth on both sides, and one
    with another player what is had: only the matches left need to be weighed.
    """
    between = [1 for i, j in left if i in players and j in players]
    least = worth * len(between)
    together = sum([wanted[player] for player in players])
    if len(players) == len(wanted):
        return together != least
    return together < least
