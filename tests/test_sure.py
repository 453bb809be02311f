"""[8]: the outcomes that a match has in the ends, and the sure matches; and [2], [3] as far as of these."""

import unittest
from itertools import permutations, product

from tests.helper import Agreeing, Angry, Own, all_played, anything, anything_but_numbers, anything_but_points, brought
from tests.helper import calls_made, ends_by_points, leagues_of, left_alone, matches_of, name_of, points_far
from tests.helper import points_near, points_renamed, points_to_ask, refused_with, renamed, some_leagues
from wintold.errors import NoLeague, NoMatch, NoPoints
from wintold.leagues import matches_left
from wintold.sure import outcomes_of, sure_matches

FAR = 10 ** 25


def outcomes_in(ends, i, j):
    """The outcomes of the match in all of these ends, in order."""
    found = [w for end in ends for one, other, w in end[2] if (one, other) == (i, j)]
    return [w for w in (i, None, j) if w in found]


class TestAgainstAllEnds(unittest.TestCase):
    def check(self, league, points, ends):
        """All that is told of the points, where these are all ends that bring them."""
        left = matches_left(league)
        sure = []
        for i, j in matches_of(league[1]):
            outcomes = outcomes_in(ends, i, j)
            self.assertEqual(outcomes_of(league, points, i, j), outcomes, (league, points, i, j))
            if len(outcomes) == 1 and (i, j) in left:
                sure.append((i, j, outcomes[0]))
        self.assertEqual(sure_matches(league, points), sure, (league, points))

    def check_league(self, league, step=1):
        table = ends_by_points(league)
        for points in points_to_ask(league, table, step):
            self.check(league, points, table.get(tuple(points), []))

    def test_two_and_three_players(self):
        for kind, n, highest in (("plain", 2, 2), ("ties", 2, 3), ("plain", 3, 3), ("ties", 3, 5)):
            for league in leagues_of(kind, n)[::4]:
                table = ends_by_points(league)
                for points in list(product(range(-1, highest + 1), repeat=n)) + points_far(n):
                    self.check(league, list(points), table.get(tuple(points), []))

    def test_leagues_with_no_some_and_all_matches_played(self):
        for league in some_leagues():
            if len(matches_left(league)) < 8:
                self.check_league(league, step=1 if len(matches_left(league)) < 4 else 9)

    def test_four_players(self):
        for league in leagues_of("plain", 4)[::101] + leagues_of("ties", 4)[::811]:
            self.check_league(league, step=3)
        self.check_league(("plain", 4, []))
        self.check_league(("ties", 4, []), step=2)

    def test_five_and_six_players(self):
        self.check_league(("plain", 5, []), step=29)
        self.check_league(("ties", 5, [(0, 2, None), (1, 4, 4), (3, 4, 3)]), step=97)
        self.check_league(("plain", 6, [(0, 1, 0), (2, 3, 3), (2, 5, 2), (4, 5, 5)]), step=97)


class TestByHand(unittest.TestCase):
    def test_the_order_of_outcomes(self):
        self.assertEqual(outcomes_of(("ties", 3, []), [2, 2, 2], 0, 1), [0, None, 1])
        self.assertEqual(outcomes_of(("ties", 3, []), [3, 2, 1], 0, 2), [0, None])
        self.assertEqual(outcomes_of(("ties", 3, []), [1, 2, 3], 0, 2), [None, 2])
        self.assertEqual(outcomes_of(("plain", 3, []), [1, 1, 1], 1, 2), [1, 2])
        self.assertEqual(outcomes_of(("plain", 3, []), [2, 0, 1], 1, 2), [2])

    def test_a_played_match(self):
        league = ("ties", 3, [(0, 1, None), (1, 2, 2)])
        for points in ([3, 1, 2], [2, 1, 3], [1, 1, 4]):
            self.assertEqual(outcomes_of(league, points, 0, 1), [None])
            self.assertEqual(outcomes_of(league, points, 1, 2), [2])
        for points in ([3, 2, 1], [4, 1, 1], [3, 1, 3], [0, 0, 0], [FAR, 1, 2], [-1, 4, 3]):
            self.assertEqual(outcomes_of(league, points, 0, 1), [])
            self.assertEqual(outcomes_of(league, points, 1, 2), [])
            self.assertEqual(outcomes_of(league, points, 0, 2), [])
            self.assertEqual(sure_matches(league, points), [])

    def test_played_matches_are_not_among_the_sure_ones(self):
        league = ("plain", 3, [(0, 2, 0)])
        self.assertEqual(sure_matches(league, [2, 0, 1]), [(0, 1, 0), (1, 2, 2)])
        self.assertEqual(outcomes_of(league, [2, 0, 1], 0, 2), [0])

    def test_some_are_sure(self):
        self.assertEqual(sure_matches(("plain", 4, []), [3, 1, 1, 1]), [(0, 1, 0), (0, 2, 0), (0, 3, 0)])
        self.assertEqual(sure_matches(("ties", 4, []), [4, 4, 4, 0]), [(0, 3, 0), (1, 3, 1), (2, 3, 2)])
        self.assertEqual(sure_matches(("ties", 2, []), [1, 1]), [(0, 1, None)])
        self.assertEqual(sure_matches(("ties", 3, []), [2, 2, 2]), [])

    def test_all_played(self):
        for kind, n in product(("plain", "ties"), range(2, 7)):
            league = all_played(kind, n, 1)
            points = brought(league)
            self.assertEqual(sure_matches(league, points), [])
            for i, j, w in league[2]:
                self.assertEqual(outcomes_of(league, points, i, j), [w])
                self.assertEqual(outcomes_of(league, points_near(points)[0], i, j), [])

    def test_six_players_none_played(self):
        league = ("ties", 6, [])
        self.assertEqual(sure_matches(league, [10, 8, 6, 4, 2, 0]), [(i, j, i) for i, j in matches_of(6)])
        self.assertEqual(sure_matches(league, [0, 2, 4, 6, 8, 10]), [(i, j, j) for i, j in matches_of(6)])
        self.assertEqual(sure_matches(league, [5, 5, 5, 5, 10, 0]),
                         [(i, j, i if i == 4 else j if j == 4 else i)
                          for i, j in matches_of(6) if 4 in (i, j) or 5 in (i, j)])
        self.assertEqual(sure_matches(league, [5] * 6), [])
        for i, j in matches_of(6):
            self.assertEqual(outcomes_of(league, [5] * 6, i, j), [i, None, j])

    def test_nothing_is_reckoned_anew_for_each_end(self):
        league = ("ties", 6, [])
        for points in ([5] * 6, [7, 6, 5, 5, 4, 3], [FAR] * 6):
            self.assertLess(calls_made(sure_matches, league, points), 100000)
            self.assertLess(calls_made(outcomes_of, league, points, 0, 1), 10000)


class TestThePromise(unittest.TestCase):
    def test_players_called_otherwise(self):
        league = ("ties", 4, [(0, 1, None), (0, 3, 3)])
        for points in ([3, 3, 3, 3], [2, 3, 1, 6], [5, 1, 2, 4], [1, 3, 3, 5], [3, 5, 1, 3], [0, 4, 4, 4]):
            sure = {}
            for match in sure_matches(league, points):
                sure[frozenset(match[:2])] = match[2]
            for names in permutations(range(4)):
                other = renamed(league, names)
                named = points_renamed(points, names)
                for i, j in matches_of(4):
                    low, high = sorted((names[i], names[j]))
                    told = [w if w is None else names[w] for w in outcomes_of(league, points, i, j)]
                    self.assertEqual(outcomes_of(other, named, low, high), [w for w in (low, None, high) if w in told])
                found = {}
                for i, j, w in sure_matches(other, named):
                    found[frozenset((names.index(i), names.index(j)))] = None if w is None else names.index(w)
                self.assertEqual(found, sure)


class TestNoMatch(unittest.TestCase):
    def check(self, i, j):
        with self.subTest(name_of(i) + " " + name_of(j)):
            refused_with(self, NoMatch, outcomes_of, ("ties", 4, [(0, 1, None)]), [3, 3, 3, 3], i, j)
            refused_with(self, NoMatch, outcomes_of, ("ties", 4, [(0, 1, None)]), [FAR, 3, 3, 3], i, j)
            refused_with(self, NoMatch, outcomes_of, all_played("plain", 4, 0), [0, 0, 0, 0], i, j)

    def test_players_that_meet_in_no_match(self):
        for i, j in product(range(-2, 7), repeat=2):
            if not 0 <= i < j < 4:
                self.check(i, j)
        for i, j in ((0, FAR), (-FAR, 1), (FAR, FAR), (-FAR, FAR)):
            self.check(i, j)
        refused_with(self, NoMatch, outcomes_of, ("plain", 2, []), [1, 0], 0, 2)
        refused_with(self, NoMatch, outcomes_of, ("plain", 2, []), [1, 0], 1, 2)
        refused_with(self, NoMatch, outcomes_of, ("plain", 6, []), [5, 4, 3, 2, 1, 0], 5, 6)

    def test_truths_and_texts(self):
        for i, j in ((False, True), (0, True), (False, 1), (True, 2), ("0", "1"), (0, "1"), ("0", 1), (None, None),
                     ((0,), (1,)), ((0, 1), None), ([0], [1]), (b"0", b"1"), (Own(), Own()), (Angry(), Angry()),
                     (Agreeing(int), Agreeing(int))):
            self.check(i, j)

    def test_things_of_any_kind(self):
        for thing in anything_but_numbers():
            self.check(thing, 1)
            self.check(0, thing)
            self.check(thing, thing)
            self.check(thing, Angry())


class TestRefused(unittest.TestCase):
    def test_what_is_no_league(self):
        for league in anything() + [("plain", 3, [(0, 1, None)]), ("ties", 7, []), ["ties", 3, []]]:
            for points in ([1, 1, 1], [True, 1, 1], None, Angry()):
                with self.subTest(name_of(league) + " " + name_of(points)):
                    refused_with(self, NoLeague, sure_matches, league, points)
                    for i, j in ((0, 1), (1, 0), (None, None), (Angry(), Angry())):
                        refused_with(self, NoLeague, outcomes_of, league, points, i, j)

    def test_what_is_no_points(self):
        for league in (("plain", 3, [(0, 1, 0)]), all_played("plain", 3, 0)):
            for points in anything_but_points(3) + [[1, 1, True], [False, 2, 1], [1, None, 1], ["1", 1, 1], (1, 1, 1)]:
                with self.subTest(name_of(points)):
                    refused_with(self, NoPoints, sure_matches, league, points)
                    for i, j in ((0, 1), (1, 2), (1, 0), (None, None), (Angry(), Angry())):
                        refused_with(self, NoPoints, outcomes_of, league, points, i, j)


class TestHandedInAndTold(unittest.TestCase):
    def test_what_is_handed_in_is_left_alone(self):
        end = ("ties", 3, [(0, 1, None), (0, 2, 2), (1, 2, 2)])
        for league in (("ties", 3, [(0, 1, None)]), end, ("ties", 3, [(1, 2, 2), (0, 1, None)]), ["ties", [3]]):
            for points in ([1, 1, 4], [0, 0, 0], [2, 2, 2], [True, 1, 4], [1, 1], [[1], [1], [4]]):
                left_alone(self, sure_matches, league, points)
                for i, j in ((0, 1), (0, 2), (1, 0), ([0], [1]), ({0: [1]}, 1)):
                    left_alone(self, outcomes_of, league, points, i, j)

    def test_what_is_told_is_the_askers_own(self):
        league = ("plain", 4, [(0, 1, 0)])
        points = [3, 1, 1, 1]
        calls = [(sure_matches, ()), (outcomes_of, (0, 1)), (outcomes_of, (0, 2)), (outcomes_of, (2, 3))]
        for call, more in calls:
            told = call(league, points, *more)
            again = call(league, points, *more)
            self.assertIs(type(told), list)
            kept = list(told)
            self.assertEqual(again, kept)
            self.assertIsNot(again, told)
            told.append("x")
            told[0] = None
            again.clear()
            self.assertEqual(call(league, points, *more), kept)
        self.assertEqual((league, points), (("plain", 4, [(0, 1, 0)]), [3, 1, 1, 1]))
        self.assertEqual([type(match) for match in sure_matches(league, points)], [tuple] * 2)

    def test_an_empty_list_is_the_askers_own(self):
        league = ("plain", 3, [(0, 1, 0)])
        for call, more in ((sure_matches, ()), (outcomes_of, (0, 1)), (outcomes_of, (0, 2))):
            told = call(league, [9, 9, 9], *more)
            self.assertEqual(told, [])
            told.append("x")
            self.assertEqual(call(league, [9, 9, 9], *more), [])

    def test_nothing_is_kept_of_what_was_handed_in(self):
        played = [(0, 1, 0)]
        league = ("ties", 3, played)
        points = [2, 2, 2]
        self.assertEqual(sure_matches(league, points), [(0, 2, 2), (1, 2, 1)])
        self.assertEqual(outcomes_of(league, points, 0, 1), [0])
        played[0] = (0, 1, 1)
        self.assertEqual(sure_matches(league, points), [(0, 2, 0), (1, 2, 2)])
        self.assertEqual(outcomes_of(league, points, 0, 1), [1])
        points[0] = 4
        self.assertEqual(outcomes_of(league, points, 0, 1), [])


if __name__ == "__main__":
    unittest.main()
