"""Leagues, their matches and points, and the ends that bring the points."""

from itertools import combinations

from wintold.errors import NoLeague, NoPoints
from wintold.kinds import is_player, is_tuple_of, is_whole

FEWEST_PLAYERS = 2
MOST_PLAYERS = 6
# What a match brings in all, by the kind of its league.
WORTHS = {"plain": 1, "ties": 2}


def is_league(thing):
    """Tell of anything whether it is a league."""
    if not is_tuple_of(thing, 3):
        return False
    kind, n, played = thing
    if type(kind) != str or kind not in WORTHS:
        return False
    if not is_whole(n) or not FEWEST_PLAYERS <= n <= MOST_PLAYERS:
        return False
    return type(played) == list and _are_played(kind, n, played)


def _are_played(kind, n, played):
    """Tell of a list whether it holds matches with their outcomes, rising, none twice."""
    before = (-1, -1)
    for match in played:
        if not _is_played(kind, n, match):
            return False
        i, j, _ = match
        if (i, j) <= before:
            return False
        before = (i, j)
    return True


def _is_played(kind, n, match):
    """Tell of anything whether it is one match with an outcome."""
    if not is_tuple_of(match, 3):
        return False
    i, j, w = match
    return is_match(n, i, j) and is_outcome(kind, i, j, w)


def is_match(n, i, j):
    """Tell of any two things whether they are the players of a match, the lower one first."""
    return is_player(i, n) and is_player(j, n) and i < j


def is_outcome(kind, i, j, w):
    """Tell of anything whether the match of i and j can have it as its outcome."""
    if w is None:
        return kind == "ties"
    return is_whole(w) and w in (i, j)


def check_league(league):
    """Refuse what is no league."""
    if not is_league(league):
        raise NoLeague("this is no league")


def check_points(league, points):
    """Refuse what is no league, and then what is no points for it."""
    check_league(league)
    n = league[1]
    if type(points) != list or len(points) != n:
        raise NoPoints("points are a list with one whole number for each player")
    for one in points:
        if not is_whole(one):
            raise NoPoints("each player's points are a whole number")


def worth_of(league):
    """Tell what each match of the league brings in all."""
    return WORTHS[league[0]]


def outcomes_in_order(kind, i, j):
    """List the outcomes that the match of i and j can have, as the ends are in order by them."""
    return [w for w in (i, None, j) if is_outcome(kind, i, j, w)]


def shares_of(kind, i, w):
    """Tell what a match brings to its lower player i and to the other one."""
    if w is None:
        return 1, 1
    if w == i:
        return WORTHS[kind], 0
    return 0, WORTHS[kind]


def points_behind(points, i, j, shares):
    """Give the points anew, as a tuple, with what the match of i and j brings to them."""
    to_i, to_j = shares
    behind = list(points)
    behind[i] += to_i
    behind[j] += to_j
    return tuple(behind)


def matches_left(league):
    """List the matches that are not played yet, as tuples (i, j), in order."""
    check_league(league)
    _, n, played = league
    done = [(i, j) for i, j, _ in played]
    return [match for match in combinations(range(n), 2) if match not in done]


def points_had(league):
    """List the points that each player has from the matches played."""
    check_league(league)
    kind, n, played = league
    had = (0,) * n
    for i, j, w in played:
        had = points_behind(had, i, j, shares_of(kind, i, w))
    return list(had)


def with_played(league, more):
    """Make the league anew, with more of its matches played."""
    kind, n, played = league
    return (kind, n, sorted(played + more, key=lambda match: (match[0], match[1])))


def is_end(league, points, thing):
    """Tell of anything whether it is an end of the league that brings the points."""
    check_points(league, points)
    return _ends(league, thing) and points_had(thing) == points


def _ends(league, thing):
    """Tell of anything whether it is an end of the league."""
    if not is_league(thing) or matches_left(thing) != []:
        return False
    kind, n, played = league
    if thing[0] != kind or thing[1] != n:
        return False
    return all([match in thing[2] for match in played])
