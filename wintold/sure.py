"""The outcomes that a match has in the ends that bring some points, and the sure matches."""

from wintold.errors import NoMatch
from wintold.leagues import check_points, is_match, matches_left, outcomes_in_order, with_played
from wintold.whether import can_be


def outcomes_of(league, points, i, j):
    """List the outcomes that the match of i and j has in some end that brings the points."""
    check_points(league, points)
    if not is_match(league[1], i, j):
        raise NoMatch("this is no match of the league")
    for one, other, w in league[2]:
        if (one, other) == (i, j):
            return [w] if can_be(league, points) else []
    return _outcomes_left(league, points, i, j)


def _outcomes_left(league, points, i, j):
    """List those outcomes of a match left that can be played with the points still to be brought."""
    outcomes = outcomes_in_order(league[0], i, j)
    return [w for w in outcomes if can_be(with_played(league, [(i, j, w)]), points)]


def sure_matches(league, points):
    """List the matches left that have one outcome only, as tuples (i, j, w), in order."""
    check_points(league, points)
    sure = []
    for i, j in matches_left(league):
        outcomes = _outcomes_left(league, points, i, j)
        if len(outcomes) == 1:
            sure.append((i, j, outcomes[0]))
    return sure
