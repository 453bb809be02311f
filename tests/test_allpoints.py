"""[9]: how many unlike lists of points the ends bring, and all of them; and [2], [3] as far as of these."""

import unittest
from itertools import permutations, product

from tests.helper import Angry, all_played, anything, brought, calls_made, ends_by_points, leagues_of, left_alone
from tests.helper import name_of, points_renamed, refused_with, renamed, some_leagues
from wintold.allpoints import all_points, count_points
from wintold.errors import NoLeague, TooMany
from wintold.leagues import matches_left
from wintold.whether import can_be

# Leagues whose ends bring just sixteen lists: four matches are left, of which none close a ring.
SIXTEEN = [
    ("plain", 6, [(0, 3, 0), (0, 4, 4), (0, 5, 5), (1, 2, 1), (1, 3, 3), (1, 4, 1), (1, 5, 5), (2, 4, 4), (2, 5, 2),
                  (3, 4, 3), (3, 5, 5)]),
    ("plain", 5, [(0, 1, 0), (0, 2, 2), (0, 3, 0), (1, 2, 2), (1, 3, 3), (2, 3, 2)]),
    ("plain", 5, [(0, 2, 2), (0, 3, 0), (0, 4, 4), (1, 3, 3), (1, 4, 1), (2, 4, 2)]),
]


class TestAgainstAllEnds(unittest.TestCase):
    def check(self, league):
        """All that is told of the league. Gives how many lists there are."""
        found = sorted({tuple(points): True for points in ends_by_points(league)})
        self.assertEqual(count_points(league), len(found), league)
        if len(found) > 16:
            refused_with(self, TooMany, all_points, league)
        else:
            self.assertEqual(all_points(league), [list(points) for points in found], league)
        return len(found)

    def test_two_and_three_players(self):
        for kind, n in product(("plain", "ties"), (2, 3)):
            for league in leagues_of(kind, n):
                self.check(league)

    def test_four_players(self):
        counts = {self.check(league) for league in leagues_of("plain", 4)[::7] + leagues_of("ties", 4)[::41]}
        self.assertTrue({1, 2, 3, 4, 8, 9} <= counts)
        self.assertTrue(max(counts) > 16)

    def test_leagues_with_no_some_and_all_matches_played(self):
        for league in some_leagues():
            if len(matches_left(league)) < 9:
                self.check(league)

    def test_five_and_six_players(self):
        for kind, n in (("plain", 5), ("ties", 5), ("plain", 6), ("ties", 6)):
            whole = all_played(kind, n, 2)[2]
            for out in range(5):
                self.check((kind, n, whole[out:]))
                self.check((kind, n, whole[:len(whole) - out]))
                self.check((kind, n, [match for at, match in enumerate(whole) if at % 5 > 1 or at % 4 == out]))
        self.check(("plain", 5, []))
        self.check(("ties", 5, [(0, 2, None)]))
        self.check(("plain", 6, [(3, 4, 4)]))


class TestByHand(unittest.TestCase):
    def test_two_players(self):
        self.assertEqual(count_points(("plain", 2, [])), 2)
        self.assertEqual(all_points(("plain", 2, [])), [[0, 1], [1, 0]])
        self.assertEqual(count_points(("ties", 2, [])), 3)
        self.assertEqual(all_points(("ties", 2, [])), [[0, 2], [1, 1], [2, 0]])
        self.assertEqual(all_points(("plain", 2, [(0, 1, 1)])), [[0, 1]])
        self.assertEqual(all_points(("ties", 2, [(0, 1, None)])), [[1, 1]])

    def test_each_once_and_in_order(self):
        self.assertEqual(count_points(("plain", 3, [])), 7)
        self.assertEqual(all_points(("plain", 3, [])),
                         [[0, 1, 2], [0, 2, 1], [1, 0, 2], [1, 1, 1], [1, 2, 0], [2, 0, 1], [2, 1, 0]])
        self.assertEqual(all_points(("ties", 3, [(0, 2, None)])),
                         [[1, 2, 3], [1, 3, 2], [1, 4, 1], [2, 1, 3], [2, 2, 2], [2, 3, 1], [3, 0, 3], [3, 1, 2],
                          [3, 2, 1]])
        self.assertEqual(all_points(("ties", 3, [(0, 1, 0), (0, 2, None)])), [[3, 0, 3], [3, 1, 2], [3, 2, 1]])

    def test_all_played(self):
        for kind, n in product(("plain", "ties"), range(2, 7)):
            league = all_played(kind, n, 1)
            self.assertEqual(count_points(league), 1)
            self.assertEqual(all_points(league), [brought(league)])

    def test_just_sixteen(self):
        for league in SIXTEEN:
            self.assertEqual(len(matches_left(league)), 4)
            self.assertEqual(count_points(league), 16)
            told = all_points(league)
            self.assertEqual(told, [list(points) for points in sorted(ends_by_points(league))])
            self.assertEqual(len(told), 16)

    def test_fifteen(self):
        ring = ("plain", 4, [(0, 2, 0), (1, 3, 3)])
        self.assertEqual(count_points(ring), 15)
        self.assertEqual(all_points(ring), [list(points) for points in sorted(ends_by_points(ring))])

    def test_seventeen_and_more(self):
        counts = []
        for league in leagues_of("ties", 4)[::13] + leagues_of("plain", 4)[::3]:
            many = count_points(league)
            if many > 16:
                counts.append(many)
                refused_with(self, TooMany, all_points, league)
        self.assertEqual(min(counts), 19)
        self.assertEqual(count_points(("ties", 3, [])), 19)
        refused_with(self, TooMany, all_points, ("ties", 3, []))
        self.assertEqual(count_points(("plain", 4, [])), 38)
        refused_with(self, TooMany, all_points, ("plain", 4, []))

    def test_six_players_none_played(self):
        # As many as there are forests of the players, each with a weight of worth for each of its matches.
        for kind, many in (("plain", 2932), ("ties", 62683)):
            self.assertEqual(count_points((kind, 6, [])), many)
            self.assertIs(type(count_points((kind, 6, []))), int)
            refused_with(self, TooMany, all_points, (kind, 6, []))

    def test_no_end_is_gone_through(self):
        self.assertLess(calls_made(count_points, ("plain", 6, [])), 40000)
        self.assertLess(calls_made(all_points, ("plain", 3, [])), 1000)


class TestThePromise(unittest.TestCase):
    def test_points_told_are_just_those_that_can_be(self):
        asked = [(("plain", 3, []), 3), (("ties", 3, [(0, 2, None)]), 5), (("plain", 4, [(0, 2, 2)]), 3)]
        for league, highest in asked:
            brought_ones = [list(points) for points in product(range(highest + 1), repeat=league[1])
                            if can_be(league, list(points))]
            self.assertEqual(count_points(league), len(brought_ones))
            if len(brought_ones) <= 16:
                self.assertEqual(all_points(league), brought_ones)

    def test_players_called_otherwise(self):
        league = ("ties", 4, [(0, 1, None), (0, 3, 3), (1, 3, 1), (2, 3, None)])
        told = all_points(league)
        for names in permutations(range(4)):
            other = renamed(league, names)
            self.assertEqual(count_points(other), len(told))
            self.assertEqual(all_points(other), sorted(points_renamed(points, names) for points in told))


class TestRefused(unittest.TestCase):
    def test_what_is_no_league(self):
        others = [("plain", 3, [(0, 1, None)]), ("ties", 7, []), ("ties", 1, []), ["ties", 3, []],
                  ("ties", 3, [(1, 2, 1), (0, 1, 0)]), ("ties", True, []), ("ties", 6, [Angry()])]
        for league in anything() + others:
            with self.subTest(name_of(league)):
                refused_with(self, NoLeague, count_points, league)
                refused_with(self, NoLeague, all_points, league)


class TestHandedInAndTold(unittest.TestCase):
    def test_what_is_handed_in_is_left_alone(self):
        for league in (("ties", 3, [(0, 1, None)]), ("ties", 3, []), ("plain", 3, []), ["ties", [3]],
                       ("ties", 3, [(1, 2, 2), (0, 1, None)]), all_played("ties", 3, 0)):
            left_alone(self, count_points, league)
            left_alone(self, all_points, league)

    def test_what_is_told_is_the_askers_own(self):
        for league in (("plain", 3, []), all_played("ties", 3, 0)):
            told = all_points(league)
            again = all_points(league)
            kept = [list(points) for points in told]
            self.assertEqual(again, kept)
            everything = [told, again] + told + again
            self.assertEqual(len({id(one) for one in everything}), len(everything))
            self.assertEqual({type(one) for one in everything}, {list})
            told[0].append("x")
            told.append(told[0])
            again[0][0] = None
            again.clear()
            self.assertEqual(all_points(league), kept)
            self.assertEqual(count_points(league), len(kept))

    def test_nothing_is_kept_of_what_was_handed_in(self):
        played = [(0, 1, 0), (0, 2, 2)]
        league = ("plain", 3, played)
        self.assertEqual(all_points(league), [[1, 0, 2], [1, 1, 1]])
        played.pop()
        self.assertEqual(count_points(league), 4)
        self.assertEqual(all_points(league), [[1, 0, 2], [1, 1, 1], [2, 0, 1], [2, 1, 0]])


if __name__ == "__main__":
    unittest.main()
