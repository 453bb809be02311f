"""All points that the ends of a league bring."""

from wintold.errors import TooMany
from wintold.leagues import check_league, matches_left, outcomes_in_order, points_behind, points_had, shares_of

MOST_LISTS = 16


def count_points(league):
    """Tell how many unlike lists of points the ends of the league bring."""
    check_league(league)
    found = _points_at_first(league)
    for match in matches_left(league):
        found = _points_after(league[0], found, match)
    return len(found)


def all_points(league):
    """List the points that the ends of the league bring, in order, where they are at most sixteen."""
    check_league(league)
    found = _points_at_first(league)
    for match in matches_left(league):
        found = _points_after(league[0], found, match)
        # A match that goes alike behind unlike points leaves them unlike, so they never get fewer.
        if len(found) > MOST_LISTS:
            raise TooMany("the ends bring more than sixteen lists of points")
    return [list(points) for points in sorted(found)]


def _points_at_first(league):
    """Keep the points had, as the only key of a dict."""
    return {tuple(points_had(league)): True}


def _points_after(kind, found, match):
    """Keep the points that one more match makes of those found, each once, as the keys of a dict."""
    i, j = match
    shares = [shares_of(kind, i, w) for w in outcomes_in_order(kind, i, j)]
    return {points_behind(points, i, j, share): True for points in found for share in shares}
