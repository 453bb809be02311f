"""Who can be first, and how few and how many points a player ends with.

A player that is first in some end is first as well where all of that player's
matches left are won: no other player gets more by it. So the most points that
the player can end with are what the others must not go beyond, and only the
matches left between the others need to be weighed. A match moves whole points
between its two players only; so they can be shared out like that just where no
set of the others gets more together, in any case, than all of it may have. At
most 31 sets are asked, and no end is gone through.
"""

from itertools import combinations

from wintold.errors import NoPlayer
from wintold.kinds import is_player
from wintold.leagues import check_league, matches_left, outcomes_in_order, points_had, with_played, worth_of


def can_be_first(league, player):
    """Tell whether in some end nobody has more points than the player."""
    return _others_can_stay(league, player, most_points(league, player))


def can_be_first_alone(league, player):
    """Tell whether in some end all others have fewer points than the player."""
    return _others_can_stay(league, player, most_points(league, player) - 1)


def first_end_for(league, player):
    """Give the first end in which nobody has more points than the player, or None."""
    if not can_be_first(league, player):
        return None
    end = with_played(league, [])
    for i, j in matches_left(league):
        end = _with_first_outcome(end, player, i, j)
    return end


def least_points(league, player):
    """Tell how many points the player ends with at the least."""
    _check_player(league, player)
    return points_had(league)[player]


def most_points(league, player):
    """Tell how many points the player ends with at the most."""
    _check_player(league, player)
    own = [match for match in matches_left(league) if player in match]
    return points_had(league)[player] + worth_of(league) * len(own)


def _check_player(league, player):
    """Refuse what is no league, and then what is no player of it."""
    check_league(league)
    if not is_player(player, league[1]):
        raise NoPlayer("this is no player of the league")


def _others_can_stay(league, player, top):
    """Tell whether nobody else need have more points than top where the player wins all matches left."""
    others = [other for other in range(league[1]) if other != player]
    left = [match for match in matches_left(league) if player not in match]
    had = points_had(league)
    worth = worth_of(league)
    for size in range(1, league[1]):
        for players in combinations(others, size):
            between = [1 for i, j in left if i in players and j in players]
            if sum([had[other] for other in players]) + worth * len(between) > top * size:
                return False
    return True


def _with_first_outcome(league, player, i, j):
    """Play the match with the first outcome behind which the player can be first; there must be one."""
    for w in outcomes_in_order(league[0], i, j):
        behind = with_played(league, [(i, j, w)])
        if can_be_first(behind, player):
            break
    return behind
