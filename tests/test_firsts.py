"""[10]: who can be first, alone too, the first end for a player, and points; and [2], [3] as far as of these."""

import unittest
from itertools import permutations, product

from tests.helper import Agreeing, Angry, all_outcomes, all_played, anything, anything_but_numbers, brought
from tests.helper import calls_made, ends_of, leagues_of, left_alone, matches_of, name_of, refused_with, renamed
from tests.helper import some_leagues, with_match
from wintold.ends import first_end
from wintold.errors import NoLeague, NoPlayer
from wintold.firsts import can_be_first, can_be_first_alone, first_end_for, least_points, most_points
from wintold.leagues import is_end, is_league, matches_left, points_had

FAR = 10 ** 25
SIX = ("ties", 6, [])
CALLS = [can_be_first, can_be_first_alone, first_end_for, least_points, most_points]
# Player 0 has only ties: the others can all be kept from having more, but only where all have just as many.
ALL_TIES = [("ties", n, [(0, other, None) for other in range(1, n)]) for n in range(2, 7)]
# No other player alone goes beyond the one named, but a set of them does: no smaller one than two, three or four.
BEYOND = [
    (("plain", 4, [(0, 1, 0), (1, 3, 3)]), 1),
    (("ties", 4, [(0, 2, 2), (0, 3, 3)]), 0),
    (("plain", 5, [(0, 2, 0), (1, 3, 3), (1, 4, 4), (2, 3, 3)]), 1),
    (("ties", 5, [(0, 1, 1), (0, 2, None), (0, 3, 3)]), 0),
    (("plain", 6, [(0, 3, 0), (3, 4, 4), (3, 5, 5)]), 3),
    (("ties", 6, [(0, 1, 1), (0, 3, 3), (0, 4, 4)]), 0),
]


def leads(points, player):
    """Whether nobody has more points than the player."""
    return max(points) == points[player]


def leads_alone(points, player):
    """Whether all others have fewer points than the player."""
    return all(points[player] > one for at, one in enumerate(points) if at != player)


def spread_of(league):
    """All lists of points that ends bring, match by match, as tuples."""
    kind, n, played = league
    found = {tuple(brought(league))}
    for i, j in matches_left(league):
        shares = [brought((kind, n, [(i, j, w)])) for w in all_outcomes(kind, i, j)]
        found = {tuple(had + more for had, more in zip(points, share)) for points in found for share in shares}
    return found


class TestAgainstAllEnds(unittest.TestCase):
    def check(self, league):
        """All that is told of the league's players. Gives what is so of each."""
        ends = [(end, brought(end)) for end in ends_of(league)]
        found = []
        for player in range(league[1]):
            first = [end for end, points in ends if leads(points, player)]
            alone = [end for end, points in ends if leads_alone(points, player)]
            self.assertIs(can_be_first(league, player), first != [], (league, player))
            self.assertIs(can_be_first_alone(league, player), alone != [], (league, player))
            self.assertEqual(first_end_for(league, player), first[0] if first else None, (league, player))
            self.assertEqual(least_points(league, player), min(points[player] for _, points in ends))
            self.assertEqual(most_points(league, player), max(points[player] for _, points in ends))
            found.append((first != [], alone != []))
        return found

    def test_two_and_three_players(self):
        for kind, n in product(("plain", "ties"), (2, 3)):
            for league in leagues_of(kind, n):
                self.check(league)

    def test_leagues_with_no_some_and_all_matches_played(self):
        for league in some_leagues():
            if len(matches_left(league)) < 8:
                self.check(league)

    def test_four_players(self):
        found = []
        for league in leagues_of("plain", 4)[::7] + leagues_of("ties", 4)[::97]:
            found += self.check(league)
        self.assertEqual(set(found), {(False, False), (True, False), (True, True)})
        self.check(("plain", 4, []))
        self.check(("ties", 4, []))

    def test_five_players(self):
        self.check(("plain", 5, []))
        for played in ([(0, 2, 2), (0, 3, 3), (0, 4, 4)], [(0, 3, 0), (1, 3, 1)], [(0, 4, 0), (1, 2, 1), (3, 4, 3)]):
            self.check(("plain", 5, played))
        for played in ([(0, 1, 0), (0, 2, None), (1, 4, 4), (3, 4, 3)], [(0, 1, 1), (0, 2, None), (0, 3, 3), (2, 4, 2)],
                       [(0, 4, None), (1, 4, 1), (2, 4, None), (3, 4, 3)]):
            self.check(("ties", 5, played))

    def test_six_players(self):
        played = [(0, 1, 0), (0, 2, 0), (0, 5, 5), (1, 3, 3), (2, 4, 4), (3, 5, 5)]
        self.check(("plain", 6, played))
        played = [(0, 1, 0), (0, 4, None), (1, 2, 2), (1, 3, None), (2, 3, 2), (3, 5, 5), (4, 5, None), (2, 5, 5)]
        self.check(("ties", 6, sorted(played, key=lambda match: match[:2])))


class TestAgainstAllPoints(unittest.TestCase):
    def check(self, league):
        spread = spread_of(league)
        for player in range(league[1]):
            first = any(leads(points, player) for points in spread)
            alone = any(leads_alone(points, player) for points in spread)
            self.assertIs(can_be_first(league, player), first, (league, player))
            self.assertIs(can_be_first_alone(league, player), alone, (league, player))
            self.assertEqual(first_end_for(league, player) is not None, first)
            self.assertEqual(least_points(league, player), min(points[player] for points in spread))
            self.assertEqual(most_points(league, player), max(points[player] for points in spread))

    def test_sets_of_others(self):
        for league, _ in BEYOND[:-1]:
            self.check(league)
        for league in ALL_TIES[:-1]:
            self.check(league)

    def test_each_player_has_lost_some(self):
        for n, lost in ((4, 1), (4, 2), (5, 1), (5, 2), (5, 3), (6, 2), (6, 3), (6, 4)):
            for player in (0, n - 1):
                played = [(i, j, i if j == player else j) for i, j in matches_of(n) if player in (i, j)]
                self.check(("plain", n, played[:lost]))
                if n < 6:
                    self.check(("ties", n, played[:lost]))

    def test_six_players_ties(self):
        self.check(("ties", 6, [(0, 1, None), (0, 2, 2), (0, 3, 3), (0, 4, None), (2, 3, 2), (4, 5, 5)]))


class TestByHand(unittest.TestCase):
    def told(self, league, player):
        return can_be_first(league, player), can_be_first_alone(league, player)

    def test_two_players(self):
        for kind in ("plain", "ties"):
            for player in (0, 1):
                self.assertEqual(self.told((kind, 2, []), player), (True, True))
                self.assertEqual(self.told((kind, 2, [(0, 1, player)]), player), (True, True))
                self.assertEqual(self.told((kind, 2, [(0, 1, player)]), 1 - player), (False, False))
                self.assertEqual(self.told(("ties", 2, [(0, 1, None)]), player), (True, False))
        self.assertEqual(first_end_for(("ties", 2, []), 0), ("ties", 2, [(0, 1, 0)]))
        self.assertEqual(first_end_for(("ties", 2, []), 1), ("ties", 2, [(0, 1, None)]))
        self.assertEqual(first_end_for(("plain", 2, []), 1), ("plain", 2, [(0, 1, 1)]))
        self.assertIsNone(first_end_for(("ties", 2, [(0, 1, 0)]), 1))

    def test_least_and_most(self):
        self.assertEqual(least_points(("plain", 2, []), 0), 0)
        self.assertEqual(most_points(("plain", 2, []), 0), 1)
        self.assertEqual(most_points(("ties", 2, []), 1), 2)
        league = ("ties", 5, [(0, 1, None), (0, 2, 0), (1, 4, 4)])
        self.assertEqual([least_points(league, player) for player in range(5)], [3, 1, 0, 0, 2])
        self.assertEqual([most_points(league, player) for player in range(5)], [7, 5, 6, 8, 8])
        self.assertEqual([most_points(("plain", 6, []), player) for player in range(6)], [5] * 6)
        self.assertEqual([most_points(SIX, player) for player in range(6)], [10] * 6)

    def test_just_first_just_not_and_not_alone(self):
        ahead = [(0, 1, 0), (0, 2, 0), (0, 3, 3)]
        self.assertEqual(self.told(("plain", 4, ahead), 0), (True, False))
        self.assertEqual(self.told(("plain", 4, ahead[:2]), 0), (True, True))
        self.assertEqual(self.told(("plain", 4, ahead), 1), (True, False))
        self.assertEqual(self.told(("plain", 4, ahead + [(1, 2, 2)]), 1), (False, False))
        self.assertEqual(self.told(("plain", 4, ahead + [(1, 2, 1)]), 1), (True, False))
        self.assertEqual(self.told(("plain", 4, ahead + [(1, 2, 1)]), 2), (False, False))

    def test_a_ring(self):
        for kind in ("plain", "ties"):
            for player in range(3):
                ring = (kind, 3, [(0, 1, 0), (0, 2, 2), (1, 2, 1)])
                self.assertEqual(self.told(ring, player), (True, False))
                self.assertEqual(first_end_for(ring, player), ring)

    def test_all_ties_so_far(self):
        for league in ALL_TIES:
            n = league[1]
            self.assertEqual(self.told(league, 0), (True, False))
            self.assertEqual(self.told(league, 1), (True, n > 2))
            self.assertEqual((least_points(league, 0), most_points(league, 0)), (n - 1, n - 1))
            self.assertEqual(brought(first_end_for(league, 0)), [n - 1] * n)

    def test_a_set_of_others_goes_beyond(self):
        for league, player in BEYOND:
            self.assertEqual(self.told(league, player), (False, False))
            self.assertIsNone(first_end_for(league, player))
            most = most_points(league, player)
            for other in set(range(league[1])) - {player}:
                self.assertLessEqual(least_points(league, other), most)

    def test_all_played(self):
        for kind, n, turn in product(("plain", "ties"), range(2, 7), range(3)):
            league = all_played(kind, n, turn)
            points = brought(league)
            for player in range(n):
                self.assertEqual(self.told(league, player), (leads(points, player), leads_alone(points, player)))
                self.assertEqual(first_end_for(league, player), league if leads(points, player) else None)
                self.assertEqual(least_points(league, player), points[player])
                self.assertEqual(most_points(league, player), points[player])

    def test_none_played(self):
        for kind, n in product(("plain", "ties"), range(2, 7)):
            for player in range(n):
                self.assertEqual(self.told((kind, n, []), player), (True, True))
        self.assertEqual(first_end_for(("plain", 3, []), 2), ("plain", 3, [(0, 1, 0), (0, 2, 2), (1, 2, 1)]))
        self.assertEqual(first_end_for(("ties", 3, []), 2), ("ties", 3, [(0, 1, 0), (0, 2, None), (1, 2, 2)]))
        self.assertEqual(first_end_for(SIX, 0)[2], [(i, j, i) for i, j in matches_of(6)])

    def test_whole_numbers_are_told(self):
        for call in (least_points, most_points):
            self.assertIs(type(call(("ties", 3, [(0, 1, None)]), 1)), int)


class TestThePromise(unittest.TestCase):
    def test_the_end_told_is_an_end_with_the_player_first(self):
        for league in some_leagues() + [league for league, _ in BEYOND] + ALL_TIES:
            for player in range(league[1]):
                end = first_end_for(league, player)
                self.assertIs(end is not None, can_be_first(league, player))
                if end is not None:
                    points = brought(end)
                    self.assertIs(is_end(league, points, end), True)
                    self.assertTrue(leads(points, player))
                    self.assertEqual(first_end(league, points), end)
                    self.assertTrue(least_points(league, player) <= points[player] <= most_points(league, player))
                if can_be_first_alone(league, player):
                    self.assertIs(can_be_first(league, player), True)

    def test_the_end_told_is_the_first_one(self):
        for league in (SIX, ("plain", 6, []), ("ties", 6, [(0, 1, 1), (0, 3, 3), (2, 4, None)]), ("ties", 5, [])):
            for player in range(league[1]):
                step = league
                for i, j, w in first_end_for(league, player)[2]:
                    if (i, j) in matches_left(step):
                        outcomes = all_outcomes(league[0], i, j)
                        for other in outcomes[:outcomes.index(w)]:
                            self.assertIs(can_be_first(with_match(step, (i, j, other)), player), False)
                        step = with_match(step, (i, j, w))

    def test_a_match_played_leaves_what_was_in_some_outcome(self):
        for league in some_leagues()[::3] + [league for league, _ in BEYOND]:
            for player in range(league[1]):
                for i, j in matches_left(league)[::4]:
                    parts = [with_match(league, (i, j, w)) for w in all_outcomes(league[0], i, j)]
                    for call in (can_be_first, can_be_first_alone):
                        self.assertIs(call(league, player), any([call(part, player) for part in parts]))
                    self.assertEqual(least_points(league, player), min(least_points(part, player) for part in parts))
                    self.assertEqual(most_points(league, player), max(most_points(part, player) for part in parts))

    def test_players_called_otherwise(self):
        for league, n in ((("ties", 4, [(0, 2, 2), (0, 3, 3)]), 4), (("plain", 5, BEYOND[2][0][2]), 5)):
            for names in permutations(range(n)):
                other = renamed(league, names)
                for player in range(n):
                    for call in (can_be_first, can_be_first_alone, least_points, most_points):
                        self.assertEqual(call(other, names[player]), call(league, player))

    def test_nothing_is_reckoned_anew_for_each_end(self):
        for league in (SIX, ALL_TIES[4], BEYOND[5][0]):
            for player in (0, 5):
                for call in (can_be_first, can_be_first_alone):
                    self.assertLess(calls_made(call, league, player), 5000)
                self.assertLess(calls_made(first_end_for, league, player), 50000)


class TestRefused(unittest.TestCase):
    def test_what_is_no_player(self):
        for league in (("plain", 2, []), ("ties", 4, [(0, 1, None)]), all_played("plain", 6, 0)):
            n = league[1]
            for player in anything_but_numbers() + [-1, -n, n, n + 1, FAR, -FAR, [0], (0,), "1", b"1", Agreeing(int)]:
                for call in CALLS:
                    with self.subTest(call.__name__ + " " + name_of(player)):
                        refused_with(self, NoPlayer, call, league, player)

    def test_what_is_no_league(self):
        others = [("plain", 3, [(0, 1, None)]), ("ties", 7, []), ("ties", 1, []), ["ties", 3, []],
                  ("ties", 3, [(1, 2, 1), (0, 1, 0)]), ("ties", True, []), ("ties", 6, [Angry()])]
        for league in anything() + others:
            for player in (0, -1, True, None, Angry()):
                for call in CALLS:
                    with self.subTest(call.__name__ + " " + name_of(league)):
                        refused_with(self, NoLeague, call, league, player)


class TestHandedInAndTold(unittest.TestCase):
    def test_what_is_handed_in_is_left_alone(self):
        for league in (("ties", 3, [(0, 1, None)]), ("plain", 3, []), ["ties", [3]], all_played("ties", 3, 0),
                       ("ties", 3, [(1, 2, 2), (0, 1, None)])):
            for player in (0, 2, 3, [0], {0: [1]}):
                for call in CALLS:
                    left_alone(self, call, league, player)

    def test_a_told_league_is_the_askers_own(self):
        for league in (("ties", 3, [(0, 1, None)]), all_played("plain", 3, 0)):
            given = list(league[2])
            end = first_end_for(league, 0)
            again = first_end_for(league, 0)
            kept = list(end[2])
            self.assertEqual(again, end)
            self.assertIs(is_league(end), True)
            self.assertIsNot(again[2], end[2])
            self.assertIsNot(end[2], league[2])
            end[2].append("x")
            again[2].clear()
            self.assertEqual(league[2], given)
            self.assertEqual(first_end_for(league, 0)[2], kept)

    def test_nothing_is_kept_of_what_was_handed_in(self):
        played = [(0, 1, 0), (0, 2, 0)]
        league = ("plain", 3, played)
        self.assertIs(can_be_first(league, 1), False)
        told = first_end_for(league, 0)
        played[1] = (0, 2, 2)
        self.assertIs(can_be_first(league, 1), True)
        self.assertIs(can_be_first_alone(league, 1), False)
        self.assertEqual(told, ("plain", 3, [(0, 1, 0), (0, 2, 0), (1, 2, 1)]))
        self.assertEqual(first_end_for(league, 1), ("plain", 3, [(0, 1, 0), (0, 2, 2), (1, 2, 1)]))
        played.clear()
        self.assertIs(can_be_first_alone(league, 1), True)
        self.assertEqual(most_points(league, 1), 2)
        self.assertEqual(points_had(league), [0, 0, 0])

    def test_asked_twice(self):
        for league in (SIX, BEYOND[5][0]):
            for call in CALLS:
                self.assertEqual(call(league, 0), call(league, 0))


if __name__ == "__main__":
    unittest.main()
