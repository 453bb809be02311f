"""[5]: points, and what an end of a league is that brings some points."""

import unittest

from tests.helper import Agreeing, Angry, Own, anything, anything_but_points, brought, ends_of, leagues_of, left_alone
from tests.helper import name_of, refused_with
from wintold.errors import NoLeague, NoPoints
from wintold.leagues import is_end

LEAGUE = ("ties", 3, [(0, 1, 0)])
END = ("ties", 3, [(0, 1, 0), (0, 2, None), (1, 2, 2)])
POINTS = [3, 0, 3]


class TestIsEnd(unittest.TestCase):
    def test_by_hand(self):
        self.assertIs(is_end(LEAGUE, POINTS, END), True)
        self.assertIs(is_end(END, POINTS, END), True)
        self.assertIs(is_end(("ties", 3, []), POINTS, END), True)
        self.assertIs(is_end(("plain", 2, []), [0, 1], ("plain", 2, [(0, 1, 1)])), True)
        plain = ("plain", 4, [(0, 1, 0), (0, 2, 0), (0, 3, 0), (1, 2, 2), (1, 3, 1), (2, 3, 3)])
        self.assertIs(is_end(("plain", 4, [(0, 2, 0), (1, 3, 1)]), [3, 1, 1, 1], plain), True)

    def test_a_match_out(self):
        for at in range(3):
            played = END[2][:at] + END[2][at + 1:]
            for points in (POINTS, brought(("ties", 3, played))):
                self.assertIs(is_end(LEAGUE, points, ("ties", 3, played)), False)
        self.assertIs(is_end(LEAGUE, [2, 0, 0], LEAGUE), False)

    def test_a_played_match_otherwise(self):
        for w in (1, None):
            other = ("ties", 3, [(0, 1, w), (0, 2, None), (1, 2, 2)])
            for points in (POINTS, brought(other)):
                self.assertIs(is_end(LEAGUE, points, other), False)
            self.assertIs(is_end(("ties", 3, []), brought(other), other), True)

    def test_another_kind(self):
        plain = ("plain", 3, [(0, 1, 0), (0, 2, 0), (1, 2, 1)])
        ties = ("ties", 3, plain[2])
        self.assertIs(is_end(LEAGUE, [2, 1, 0], plain), False)
        self.assertIs(is_end(LEAGUE, [4, 2, 0], plain), False)
        self.assertIs(is_end(("plain", 3, [(0, 1, 0)]), [2, 1, 0], ties), False)
        self.assertIs(is_end(("plain", 3, [(0, 1, 0)]), [4, 2, 0], ties), False)
        self.assertIs(is_end(LEAGUE, [4, 2, 0], ties), True)
        self.assertIs(is_end(("plain", 3, [(0, 1, 0)]), [2, 1, 0], plain), True)

    def test_another_number_of_players(self):
        two = ("ties", 2, [(0, 1, 0)])
        four = ("ties", 4, [(0, 1, 0), (0, 2, None), (0, 3, 0), (1, 2, 2), (1, 3, 1), (2, 3, 2)])
        self.assertIs(is_end(LEAGUE, [2, 0, 0], two), False)
        self.assertIs(is_end(LEAGUE, POINTS, four), False)
        self.assertIs(is_end(two, [2, 0], END), False)
        self.assertIs(is_end(("ties", 2, []), [3, 0], END), False)

    def test_points_that_are_not_brought(self):
        for points in ([3, 0, 2], [3, 1, 2], [0, 3, 3], [3, 3, 0], [3, 0, 4], [0, 0, 0], [-3, 0, 3], [3, 0, -3],
                       [10 ** 25, 0, 3], [3, -10 ** 25, 3], [-1, -1, -1], [10 ** 25] * 3):
            self.assertIs(is_end(LEAGUE, points, END), False, points)

    def test_things_of_any_kind(self):
        others = [list(END), ("ties", 3, tuple(END[2])), ("ties", True, END[2]), END + (None,), END[:2],
                  ("ties", 3, [list(match) for match in END[2]]), ("ties", 3, END[2][::-1]), ("ties", 3, END[2] * 2),
                  ("ties", 3, [(0, 1, False), (0, 2, None), (1, 2, 2)]), ("Ties", 3, END[2]),
                  ("ties", 3, END[2][:2] + [Angry()]), ("ties", 3, END[2][:2] + [(1, 2, Agreeing(int))])]
        for thing in anything() + others:
            with self.subTest(name_of(thing)):
                self.assertIs(is_end(LEAGUE, POINTS, thing), False)

    def test_every_small_one(self):
        for kind, n in (("plain", 2), ("plain", 3), ("ties", 2), ("ties", 3)):
            whole = ends_of((kind, n, []))
            spread = [brought(end) for end in whole]
            for league in leagues_of(kind, n):
                ends = ends_of(league)
                for end in whole:
                    for points in spread:
                        so = end in ends and points == brought(end)
                        self.assertIs(is_end(league, points, end), so, (league, points, end))


class TestPoints(unittest.TestCase):
    def test_points_that_are_none(self):
        for at in range(3):
            for one in (True, False, None, "3", "", b"3", [3], (3,), {}, Own(), Angry(), Agreeing(int), int):
                points = list(POINTS)
                points[at] = one
                with self.subTest(name_of(points)):
                    refused_with(self, NoPoints, is_end, LEAGUE, points, END)
        for points in (POINTS + [0], POINTS[:2], [], tuple(POINTS), "303", b"303", {0: 3, 1: 0, 2: 3}, range(3)):
            refused_with(self, NoPoints, is_end, LEAGUE, points, END)

    def test_anything_but_points(self):
        for points in anything_but_points(3):
            with self.subTest(name_of(points)):
                refused_with(self, NoPoints, is_end, LEAGUE, points, END)

    def test_the_league_is_asked_first(self):
        for league in anything() + [("ties", 3, [(0, 1, True)]), ("ties", 7, [])]:
            for points in (POINTS, [3, 0], None, Angry()):
                for thing in (END, None, Angry()):
                    refused_with(self, NoLeague, is_end, league, points, thing)

    def test_the_points_are_asked_ahead_of_the_end(self):
        for points in ([3, 0], None, "303", [3, 0, True]):
            for thing in anything() + [END, LEAGUE]:
                refused_with(self, NoPoints, is_end, LEAGUE, points, thing)


class TestHandedIn(unittest.TestCase):
    def test_what_is_handed_in_is_left_alone(self):
        for league in (LEAGUE, END, ("ties", 3, []), ("ties", 3, [(1, 2, 1), (0, 1, 0)]), ["ties"]):
            for points in (POINTS, [0, 0, 0], [True, 0, 3], [3, 0]):
                for thing in (END, LEAGUE, [[1], {2: [3]}], ("ties", 3, END[2][::-1])):
                    left_alone(self, is_end, league, points, thing)

    def test_asked_twice_and_changed_between(self):
        played = list(END[2])
        points = list(POINTS)
        thing = ("ties", 3, played)
        self.assertIs(is_end(LEAGUE, points, thing), True)
        self.assertIs(is_end(LEAGUE, points, thing), True)
        played[1] = (0, 2, 0)
        self.assertIs(is_end(LEAGUE, points, thing), False)
        points[0], points[2] = 4, 2
        self.assertIs(is_end(LEAGUE, points, thing), True)


if __name__ == "__main__":
    unittest.main()
