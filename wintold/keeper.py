"""A league whose matches are played and taken back, and what that changes."""

from wintold.ends import count_ends
from wintold.errors import NoMatch, NoOutcome
from wintold.leagues import check_points, is_match, is_outcome, matches_left, with_played
from wintold.sure import sure_matches


class Keeper:
    """A league and points, with the way back to the league that it began with."""

    def __init__(self, league, points):
        check_points(league, points)
        self._league = with_played(league, [])
        self._points = list(points)
        self._earlier = []

    def play(self, i, j, w):
        """Play a match left. Tells how many ends bring the points before and now."""
        behind = league_behind(self._league, i, j, w)
        before = self.count()
        self._earlier.append(self._league)
        self._league = behind
        return before, self.count()

    def back(self):
        """Take the last match played back. Tells how many ends bring the points before and now."""
        if self._earlier == []:
            raise NoMatch("no match is left to take back")
        before = self.count()
        self._league = self._earlier.pop()
        return before, self.count()

    def league(self):
        """Give the league as it is now."""
        return with_played(self._league, [])

    def count(self):
        """Tell how many ends of the league as it is now bring the points."""
        return count_ends(self._league, self._points)

    def sure(self):
        """List the matches left that have one outcome only, as tuples (i, j, w), in order."""
        return sure_matches(self._league, self._points)

    def played(self):
        """Tell how many matches can be taken back."""
        return len(self._earlier)


def league_behind(league, i, j, w):
    """Make the league anew, with a match played that was left, or refuse the match or its outcome."""
    if not is_match(league[1], i, j) or (i, j) not in matches_left(league):
        raise NoMatch("this is no match that is left")
    if not is_outcome(league[0], i, j, w):
        raise NoOutcome("the match can't have this outcome")
    return with_played(league, [(i, j, w)])
