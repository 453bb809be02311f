"""The ends that bring some points: the first one, how many, and each by its number."""

from wintold.errors import NoEnd, NoNumber
from wintold.kinds import is_whole
from wintold.leagues import check_points, is_end, matches_left, outcomes_in_order, points_behind, points_had
from wintold.leagues import shares_of, with_played, worth_of


class Ways:
    """The ways to play the matches left of a league so that its players end with some points.

    How many there are from a match on hangs on the points had there alone, not
    on the matches that brought them. So they are reckoned once for each such
    place and points, and kept by these; no way is gone through.
    """

    def __init__(self, league, points):
        self.kind = league[0]
        self.left = matches_left(league)
        self.had = tuple(points_had(league))
        self.goal = tuple(points)
        self.most = _most_from(league, self.left)
        self.counted = {}

    def in_all(self):
        """Tell how many ways there are."""
        return self.many(0, self.had)

    def many(self, at, had):
        """Tell how many ways lead on from the points had ahead of the match at that place."""
        if not self._in_reach(at, had):
            return 0
        if at == len(self.left):
            return 1
        if (at, had) not in self.counted:
            self.counted[(at, had)] = sum([self.many(at + 1, behind) for _, behind in self.steps(at, had)])
        return self.counted[(at, had)]

    def steps(self, at, had):
        """List each outcome of the match at that place, in order, with the points had behind it."""
        i, j = self.left[at]
        outcomes = outcomes_in_order(self.kind, i, j)
        return [(w, points_behind(had, i, j, shares_of(self.kind, i, w))) for w in outcomes]

    def _in_reach(self, at, had):
        """Tell whether each player alone can still end with the points meant for that player.

        Behind the last match nothing comes any more: there they are in reach
        only where they are had.
        """
        return all([low <= end <= low + most for low, end, most in zip(had, self.goal, self.most[at])])


def _most_from(league, left):
    """List what each player can get at the most from each match left on, and behind the last one."""
    worth = worth_of(league)
    most = [0] * league[1]
    found = [most]
    for match in reversed(left):
        most = [most[player] + worth if player in match else most[player] for player in range(league[1])]
        found.append(most)
    return found[::-1]


def first_end(league, points):
    """Give the first end that brings the points, or None."""
    check_points(league, points)
    ways = Ways(league, points)
    if ways.in_all() == 0:
        return None
    return _end_at(league, ways, 0)


def count_ends(league, points):
    """Tell how many ends bring the points."""
    check_points(league, points)
    return Ways(league, points).in_all()


def end_by(league, points, number):
    """Give the end of that number, from 0 on, among those that bring the points."""
    check_points(league, points)
    ways = Ways(league, points)
    if not is_whole(number) or not 0 <= number < ways.in_all():
        raise NoNumber("there is no end of that number")
    return _end_at(league, ways, number)


def _end_at(league, ways, number):
    """Make the end of that number, which is below the count of the ways."""
    had = ways.had
    played = []
    for at, (i, j) in enumerate(ways.left):
        w, had, number = _step_to(ways, at, had, number)
        played.append((i, j, w))
    return with_played(league, played)


def _step_to(ways, at, had, number):
    """Give the outcome in the way of that number, the points had behind it, and its number among the ways there."""
    for w, behind in ways.steps(at, had):
        many = ways.many(at + 1, behind)
        if number < many:
            break
        number -= many
    return w, behind, number


def number_of(league, points, thing):
    """Tell the number of an end among those that bring the points."""
    if not is_end(league, points, thing):
        raise NoEnd("this is no end that brings the points")
    ways = Ways(league, points)
    outcomes = {(i, j): w for i, j, w in thing[2]}
    had = ways.had
    number = 0
    for at, match in enumerate(ways.left):
        ahead, had = _ways_ahead(ways, at, had, outcomes[match])
        number += ahead
    return number


def _ways_ahead(ways, at, had, outcome):
    """Tell how many ways go ahead of those with that outcome, and the points had behind it."""
    ahead = 0
    for w, behind in ways.steps(at, had):
        if w == outcome:
            break
        ahead += ways.many(at + 1, behind)
    return ahead, behind
