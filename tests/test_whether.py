"""[6]: whether there is an end, and the sets that show that there is none; and [3], as far as it is of these."""

import unittest
from itertools import permutations, product

from tests.helper import WORTHS, Agreeing, Angry, Own, anything, anything_but_points, brought, ends_of, leagues_of
from tests.helper import left_alone, name_of, refused_with, rising_lists
from wintold.errors import NoLeague, NoPoints
from wintold.leagues import is_end
from wintold.whether import can_be, first_set, set_shows


def least_of(spread, players):
    """The fewest points that the players bring together in any end."""
    return min(sum(points[player] for player in players) for points in spread)


def shows(league, points, players):
    """The words of the document, match by match."""
    kind, n, played = league
    had = 0
    for i, j, w in played:
        for player, other in ((i, j), (j, i)):
            if player in players and other not in players:
                had += {player: WORTHS[kind], None: 1, other: 0}[w]
    between = len(players) * (len(players) - 1) // 2
    together = sum(points[player] for player in players)
    if len(players) == n and together != WORTHS[kind] * between:
        return True
    return together < WORTHS[kind] * between + had


class TestAgainstAllEnds(unittest.TestCase):
    def check(self, league, lowest, highest):
        """All that is told, for all points from the lowest to the highest."""
        n = league[1]
        sets = rising_lists(n)
        spread = [brought(end) for end in ends_of(league)]
        found = {tuple(points) for points in spread}
        least = {tuple(players): least_of(spread, players) for players in sets}
        for points in product(range(lowest, highest + 1), repeat=n):
            given = list(points)
            so = points in found
            self.assertIs(can_be(league, given), so, (league, points))
            showing = [players for players in sets if shows(league, given, players)]
            self.assertEqual(first_set(league, given), showing[0] if showing else None, (league, points))
            self.assertEqual(so, showing == [], (league, points))
            short = [players for players in sets if sum(points[one] for one in players) < least[tuple(players)]]
            if short != []:
                self.assertEqual(showing[0], short[0], (league, points))

    def check_sets(self, league, lowest, highest):
        """Each set, asked by itself."""
        for points in product(range(lowest, highest + 1), repeat=league[1]):
            for players in rising_lists(league[1]):
                self.assertIs(set_shows(league, list(points), players), shows(league, points, players),
                              (league, points, players))

    def test_two_players(self):
        for kind in ("plain", "ties"):
            for league in leagues_of(kind, 2):
                self.check(league, -3, 5)
                self.check_sets(league, -3, 5)

    def test_three_players(self):
        for kind, highest in (("plain", 3), ("ties", 5)):
            for league in leagues_of(kind, 3):
                self.check(league, -1, highest)

    def test_sets_of_three_players(self):
        for kind, highest in (("plain", 3), ("ties", 4)):
            for league in leagues_of(kind, 3)[::5]:
                self.check_sets(league, -1, highest)

    def test_four_players(self):
        for league in leagues_of("plain", 4)[::61]:
            self.check(league, 0, 4)
        for league in leagues_of("ties", 4)[::585]:
            self.check(league, 0, 5)
        self.check(("ties", 4, []), 0, 6)

    def test_sets_of_four_players(self):
        for league in (("plain", 4, [(0, 1, 0), (1, 3, 3)]), ("ties", 4, [(0, 2, None), (0, 3, 3), (1, 2, 1)])):
            self.check_sets(league, 0, 3)

    def test_five_players(self):
        self.check(("plain", 5, [(0, 3, 3), (1, 2, 1)]), 0, 4)
        self.check(("ties", 5, [(0, 1, None), (0, 2, 2), (0, 3, 0), (1, 4, 1), (2, 4, None), (3, 4, 4)]), 1, 5)

    def test_six_players(self):
        played = [(0, 1, 0), (0, 2, None), (0, 3, 3), (0, 4, 0), (0, 5, None), (1, 2, 1), (1, 3, None), (1, 4, 4),
                  (2, 3, 2), (2, 5, 5), (3, 4, None)]
        for league in (("ties", 6, played), ("plain", 6, [match for match in played if match[2] is not None])):
            ends = ends_of(league)
            found = {tuple(brought(end)) for end in ends}
            for points in sorted(found)[::7]:
                self.assertIs(can_be(league, list(points)), True)
                self.assertIsNone(first_set(league, list(points)))
                for at in range(6):
                    for by in (-2, -1, 1, 2):
                        moved = list(points)
                        moved[at] += by
                        moved[at - 1] -= by
                        self.assertIs(can_be(league, moved), tuple(moved) in found, (league, moved))


class TestByHand(unittest.TestCase):
    def test_whether(self):
        self.assertIs(can_be(("plain", 2, []), [1, 0]), True)
        self.assertIs(can_be(("plain", 2, []), [0, 0]), False)
        self.assertIs(can_be(("ties", 2, []), [1, 1]), True)
        self.assertIs(can_be(("ties", 2, [(0, 1, 0)]), [1, 1]), False)
        self.assertIs(can_be(("ties", 2, [(0, 1, 0)]), [2, 0]), True)
        self.assertIs(can_be(("plain", 6, []), [5, 4, 3, 2, 1, 0]), True)
        self.assertIs(can_be(("plain", 6, []), [5, 5, 2, 2, 1, 0]), False)
        self.assertIs(can_be(("ties", 6, []), [5] * 6), True)
        self.assertIs(can_be(("plain", 6, []), [3, 3, 3, 2, 2, 2]), True)

    def test_the_worth_of_matches_between_two_of_them(self):
        self.assertIs(set_shows(("plain", 3, []), [3, 0, 0], [1, 2]), True)
        self.assertIs(set_shows(("plain", 3, []), [2, 1, 0], [1, 2]), False)
        self.assertIs(set_shows(("ties", 3, []), [5, 1, 0], [1, 2]), True)
        self.assertIs(set_shows(("ties", 3, []), [4, 1, 1], [1, 2]), False)

    def test_what_they_have_from_matches_with_others(self):
        league = ("ties", 4, [(0, 1, None), (0, 2, 2), (1, 2, 1)])
        self.assertIs(set_shows(league, [0, 4, 4, 4], [0]), True)
        self.assertIs(set_shows(league, [1, 4, 4, 3], [0]), False)
        self.assertIs(set_shows(league, [1, 2, 4, 5], [0, 1]), True)
        self.assertIs(set_shows(league, [1, 3, 4, 4], [0, 1]), False)
        self.assertIs(set_shows(league, [1, 2, 4, 5], [1]), True)
        self.assertIs(set_shows(league, [1, 3, 4, 4], [1]), False)
        self.assertIs(set_shows(league, [0, 4, 1, 7], [0, 2]), True)
        self.assertIs(set_shows(league, [0, 4, 2, 6], [0, 2]), True)
        self.assertIs(set_shows(league, [1, 4, 2, 5], [0, 2]), False)
        self.assertIs(set_shows(league, [1, 3, 2, 6], [0, 1, 2]), False)
        self.assertIs(set_shows(league, [1, 3, 1, 7], [0, 1, 2]), True)
        self.assertIs(set_shows(league, [1, 3, 2, 5], [0, 1, 2]), False)

    def test_the_list_of_all_players(self):
        league = ("plain", 3, [(0, 2, 2)])
        for points, so in (([1, 1, 1], False), ([1, 1, 2], True), ([0, 1, 1], True), ([3, 0, 0], False),
                           ([10 ** 25, 0, 0], True), ([0, -10 ** 25, 0], True), ([10 ** 25, -10 ** 25, 3], False)):
            self.assertIs(set_shows(league, points, [0, 1, 2]), so, points)
        self.assertIs(set_shows(league, [2, 2, 2], [0, 1]), False)

    def test_the_order_of_first_set(self):
        plain = ("plain", 4, [])
        self.assertIsNone(first_set(plain, [3, 2, 1, 0]))
        self.assertEqual(first_set(plain, [-1, -1, 4, 4]), [0])
        self.assertEqual(first_set(plain, [4, -1, -1, 4]), [1])
        self.assertEqual(first_set(plain, [0, 0, 7, -1]), [3])
        self.assertEqual(first_set(plain, [0, 0, 3, 3]), [0, 1])
        self.assertEqual(first_set(plain, [0, 3, 3, 0]), [0, 3])
        self.assertEqual(first_set(plain, [3, 0, 3, 0]), [1, 3])
        self.assertEqual(first_set(plain, [0, 0, 0, 0]), [0, 1])
        self.assertEqual(first_set(plain, [1, 1, 0, 4]), [0, 1, 2])
        self.assertEqual(first_set(plain, [4, 1, 1, 0]), [1, 2, 3])
        self.assertEqual(first_set(plain, [2, 2, 2, 2]), [0, 1, 2, 3])
        self.assertEqual(first_set(plain, [1, 1, 1, 2]), [0, 1, 2, 3])
        self.assertEqual(first_set(("ties", 3, [(0, 1, None)]), [0, 3, 3]), [0])
        self.assertEqual(first_set(("ties", 3, [(0, 1, None)]), [1, 0, 1]), [1])

    def test_far_points(self):
        self.assertEqual(first_set(("plain", 3, []), [10 ** 25, 10 ** 25, -10 ** 25]), [2])
        self.assertEqual(first_set(("plain", 3, []), [10 ** 25, 10 ** 25, 10 ** 25]), [0, 1, 2])
        self.assertIs(can_be(("ties", 2, []), [-1, 3]), False)
        self.assertIs(can_be(("ties", 2, []), [10 ** 25, 2 - 10 ** 25]), False)


class TestThePromise(unittest.TestCase):
    def test_where_there_is_an_end_no_set_shows(self):
        league = ("ties", 4, [(0, 1, None), (2, 3, 3)])
        for end in ends_of(league):
            points = brought(end)
            self.assertIs(is_end(league, points, end), True)
            self.assertIs(can_be(league, points), True)
            for players in rising_lists(4):
                self.assertIs(set_shows(league, points, players), False)

    def test_the_first_set_is_let_by(self):
        league = ("ties", 3, [(0, 2, None)])
        for points in product(range(-1, 6), repeat=3):
            told = first_set(league, list(points))
            self.assertEqual(told is None, can_be(league, list(points)))
            if told is not None:
                self.assertIs(set_shows(league, list(points), told), True)

    def test_players_called_otherwise(self):
        league = ("ties", 4, [(0, 1, None), (0, 3, 3), (1, 2, 1)])
        for given in ([1, 4, 3, 4], [1, 3, 3, 5], [0, 4, 4, 4], [3, 3, 3, 3], [1, 1, 1, 9], [1, 3, 4, 4], [3, 3, 2, 4]):
            for names in permutations(range(4)):
                played = []
                for i, j, w in league[2]:
                    low, high = sorted((names[i], names[j]))
                    played.append((low, high, None if w is None else names[w]))
                points = [given[names.index(player)] for player in range(4)]
                other = ("ties", 4, sorted(played, key=lambda match: match[:2]))
                self.assertIs(can_be(other, points), can_be(league, given))
                for players in rising_lists(4):
                    self.assertIs(set_shows(other, points, sorted(names[one] for one in players)),
                                  set_shows(league, given, players))


class TestNoSets(unittest.TestCase):
    def test_what_is_no_set(self):
        league = ("plain", 4, [])
        points = [-1, -1, -1, -1]
        self.assertIs(set_shows(league, points, [0, 1]), True)
        things = [[], [1, 0], [0, 2, 1], [0, 0], [1, 1], [0, 1, 1], [4], [0, 4], [-1], [-1, 0], [0, 1, 2, 3, 4],
                  [True], [False], [False, True], [0, True], (0, 1), (0,), (), {0: 1}, {0, 1}, range(2), "01", b"\x00",
                  ["0"], [None], [[0]], [(0,)], [0, None], [10 ** 25], [-10 ** 25], [Own()], [Angry()], [0, Angry()],
                  [Agreeing(int)], Agreeing(list), iter([0, 1])]
        for thing in things + anything():
            with self.subTest(name_of(thing)):
                self.assertIs(set_shows(league, points, thing), False)

    def test_out_of_range_in_smaller_leagues(self):
        self.assertIs(set_shows(("plain", 2, []), [-1, -1], [2]), False)
        self.assertIs(set_shows(("plain", 2, []), [-1, -1], [0, 2]), False)
        self.assertIs(set_shows(("plain", 2, []), [-1, -1], [0, 1]), True)


class TestRefused(unittest.TestCase):
    def test_what_is_no_league(self):
        for league in anything() + [("plain", 3, [(0, 1, None)]), ("ties", 7, []), ["ties", 3, []]]:
            for points in ([1, 1, 1], [True, 1, 1], None, Angry()):
                with self.subTest(name_of(league) + " " + name_of(points)):
                    refused_with(self, NoLeague, can_be, league, points)
                    refused_with(self, NoLeague, first_set, league, points)
                    refused_with(self, NoLeague, set_shows, league, points, [0])
                    refused_with(self, NoLeague, set_shows, league, points, Angry())

    def test_what_is_no_points(self):
        league = ("plain", 3, [(0, 1, 0)])
        for points in anything_but_points(3) + [[1, 1, True], [False, 2, 1], [1, None, 1], ["1", 1, 1], (1, 1, 1)]:
            with self.subTest(name_of(points)):
                refused_with(self, NoPoints, can_be, league, points)
                refused_with(self, NoPoints, first_set, league, points)
                for thing in ([0], [], None, Angry(), [Angry()]):
                    refused_with(self, NoPoints, set_shows, league, points, thing)


class TestHandedInAndTold(unittest.TestCase):
    def test_what_is_handed_in_is_left_alone(self):
        for league in (("ties", 3, [(0, 1, None), (1, 2, 2)]), ("ties", 3, [(1, 2, 2), (0, 1, None)]), ["ties", [3]]):
            for points in ([1, 1, 4], [0, 0, 0], [9, 9, 9], [True, 1, 4], [1, 1], [[1], [1], [4]]):
                left_alone(self, can_be, league, points)
                left_alone(self, first_set, league, points)
                for thing in ([0], [0, 1, 2], [1, 0], [[0], [1]], {0: [1]}):
                    left_alone(self, set_shows, league, points, thing)

    def test_the_told_set_is_the_askers_own(self):
        league = ("plain", 3, [])
        points = [3, 0, 0]
        told = first_set(league, points)
        again = first_set(league, points)
        self.assertEqual((told, again), ([1, 2], [1, 2]))
        self.assertIsNot(told, again)
        told.append(0)
        told[0] = None
        self.assertEqual(first_set(league, points), [1, 2])
        self.assertEqual(again, [1, 2])
        self.assertIs(set_shows(league, points, again), True)

    def test_nothing_is_kept_of_what_was_handed_in(self):
        played = [(0, 1, 0)]
        league = ("plain", 3, played)
        points = [2, 1, 0]
        self.assertIs(can_be(league, points), True)
        self.assertIs(can_be(league, points), True)
        played[0] = (0, 1, 1)
        self.assertEqual(first_set(league, points), [1, 2])
        points[0], points[2] = 0, 2
        self.assertIs(can_be(league, points), True)


if __name__ == "__main__":
    unittest.main()
