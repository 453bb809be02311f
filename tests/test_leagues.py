"""[4]: what a league is, the matches left, the points had; and [2], as far as it is of these."""

import unittest

from tests.helper import Agreeing, Angry, Own, all_played, anything, brought, leagues_of, left_alone, matches_of
from tests.helper import name_of, refused_with, some_leagues
from wintold.errors import NoLeague
from wintold.leagues import is_league, matches_left, points_had

PLAIN = [(0, 1, 0), (0, 3, 3), (2, 3, 2)]
TIES = [(0, 1, 0), (0, 3, None), (2, 3, 2)]


def no_leagues():
    """What is no league, with one thing otherwise at a time."""
    found = []
    for kind in ("", "Plain", "PLAIN", "Ties", "tie", "plains", " plain", "plain ", b"plain", None, 0, True,
                 ["plain"], ("plain",), {"plain": 1}, Own(), Angry(), Agreeing(str), str):
        found.append((kind, 4, list(PLAIN)))
    for n in (1, 7, 0, -1, -4, 3, True, False, None, "4", b"4", [4], (4,), {4: 4}, Own(), Angry(), Agreeing(int), int):
        found.append(("plain", n, list(PLAIN)))
    for n in (1, 7, 0, -1, -2, True, "2", None):
        found.append(("ties", n, []))
    for played in (tuple(PLAIN), (), None, 0, True, "", "played", b"", {}, {(0, 1, 0): 1}, set(PLAIN), iter(PLAIN),
                   range(0), Own(), Angry(), Agreeing(list), list):
        found.append(("plain", 4, played))
    found += [("plain", 4), (4, list(PLAIN)), ("plain", 4, list(PLAIN), None), ("plain", 4, list(PLAIN), []),
              ["plain", 4, list(PLAIN)], {"plain": 4}, ("plain",), (), (4, "plain", []), ("plain", [], 4)]
    return found


def no_matches():
    """What is no played match of four players, not even in a league of ties."""
    found = [[0, 1, 0], (0, 1), (1, 0), (0,), (), (0, 1, 0, 0), (0, 1, 0, None), None, 0, True, "010", b"010", {},
             {0: 1}, Own(), Angry(), Agreeing(tuple), ((0, 1), 0), ((0, 1, 0),)]
    found += [(0, 4, 0), (0, 5, 5), (4, 5, 4), (-1, 1, 1), (-2, -1, -1), (0, -1, 0), (0, 0, 0), (1, 1, 1), (1, 0, 0),
              (3, 1, 3), (10 ** 25, 1, 1), (0, 10 ** 25, 0)]
    found += [(False, 1, 1), (0, True, 0), (False, True, 0), (None, 1, 1), (0, None, 0), ("0", 1, 1), (0, "1", 0),
              (0, [1], 0), ((0,), 1, 1), (0, Own(), 0), (Angry(), 1, 1), (0, Agreeing(int), 0), (Agreeing(int), 1, 1)]
    found += [(0, 1, w) for w in (2, 3, 4, -1, True, False, "0", "", b"0", [0], (0,), [], (), {}, Own(), Angry(),
                                  Agreeing(int), int)]
    return found


class TestIsLeague(unittest.TestCase):
    def test_leagues_of_both_kinds(self):
        for league in some_leagues():
            self.assertIs(is_league(league), True, league)

    def test_every_small_league(self):
        for kind in ("plain", "ties"):
            for n in (2, 3):
                for league in leagues_of(kind, n):
                    self.assertIs(is_league(league), True, league)

    def test_one_thing_otherwise(self):
        self.assertTrue(is_league(("plain", 4, PLAIN)))
        self.assertTrue(is_league(("ties", 4, TIES)))
        for thing in no_leagues():
            with self.subTest(name_of(thing)):
                self.assertIs(is_league(thing), False)

    def test_one_match_otherwise(self):
        for match in no_matches():
            for kind in ("plain", "ties"):
                with self.subTest(kind + " " + name_of(match)):
                    self.assertIs(is_league((kind, 4, [match])), False)
                    self.assertIs(is_league((kind, 4, [match, (2, 3, 2)])), False)
                    self.assertIs(is_league((kind, 4, [(0, 1, 0), match])), False)

    def test_ties_in_leagues_with_ties_alone(self):
        self.assertIs(is_league(("ties", 4, [(0, 1, None)])), True)
        self.assertIs(is_league(("ties", 4, TIES)), True)
        self.assertIs(is_league(("plain", 4, [(0, 1, None)])), False)
        self.assertIs(is_league(("plain", 4, TIES)), False)

    def test_the_order_of_matches(self):
        for kind in ("plain", "ties"):
            for played in ([(0, 3, 3), (0, 1, 0), (2, 3, 2)], [(0, 1, 0), (2, 3, 2), (0, 3, 3)],
                           [(1, 2, 1), (0, 3, 3)], [(0, 1, 0), (0, 1, 0)], [(0, 1, 0), (0, 1, 1)],
                           [(0, 1, 1), (0, 1, 0)], [(0, 1, 0), (0, 2, 2), (0, 1, 0)]):
                self.assertIs(is_league((kind, 4, played)), False, played)
        self.assertIs(is_league(("ties", 4, [(0, 1, None), (0, 1, 1)])), False)
        self.assertIs(is_league(("ties", 4, [(0, 1, 1), (0, 1, None)])), False)

    def test_anything(self):
        for thing in anything():
            with self.subTest(name_of(thing)):
                self.assertIs(is_league(thing), False)


class TestMatchesLeft(unittest.TestCase):
    def test_by_hand(self):
        self.assertEqual(matches_left(("plain", 2, [])), [(0, 1)])
        self.assertEqual(matches_left(("ties", 2, [(0, 1, None)])), [])
        self.assertEqual(matches_left(("plain", 4, [])), [(0, 1), (0, 2), (0, 3), (1, 2), (1, 3), (2, 3)])
        self.assertEqual(matches_left(("plain", 4, PLAIN)), [(0, 2), (1, 2), (1, 3)])
        self.assertEqual(matches_left(("ties", 4, TIES)), [(0, 2), (1, 2), (1, 3)])
        self.assertEqual(matches_left(("ties", 5, [(0, 4, None), (1, 2, 2)])),
                         [(0, 1), (0, 2), (0, 3), (1, 3), (1, 4), (2, 3), (2, 4), (3, 4)])

    def test_left_and_played_are_all_matches(self):
        for league in some_leagues():
            left = matches_left(league)
            self.assertIs(type(left), list)
            self.assertEqual(left, sorted(left))
            self.assertEqual(sorted(left + [match[:2] for match in league[2]]), matches_of(league[1]))


class TestPointsHad(unittest.TestCase):
    def test_by_hand(self):
        self.assertEqual(points_had(("plain", 2, [])), [0, 0])
        self.assertEqual(points_had(("plain", 2, [(0, 1, 1)])), [0, 1])
        self.assertEqual(points_had(("ties", 2, [(0, 1, 0)])), [2, 0])
        self.assertEqual(points_had(("ties", 2, [(0, 1, None)])), [1, 1])
        self.assertEqual(points_had(("plain", 4, PLAIN)), [1, 0, 1, 1])
        self.assertEqual(points_had(("ties", 4, TIES)), [3, 0, 2, 1])
        self.assertEqual(points_had(("plain", 3, [(0, 1, 1), (0, 2, 2), (1, 2, 2)])), [0, 1, 2])
        self.assertEqual(points_had(("ties", 3, [(0, 1, 1), (0, 2, None), (1, 2, None)])), [1, 3, 2])
        self.assertEqual(points_had(("ties", 6, [])), [0, 0, 0, 0, 0, 0])

    def test_each_match_brings_its_worth(self):
        for league in some_leagues():
            had = points_had(league)
            self.assertIs(type(had), list)
            self.assertEqual(had, brought(league))
            self.assertEqual(sum(had), {"plain": 1, "ties": 2}[league[0]] * len(league[2]))

    def test_players_called_otherwise(self):
        league = ("ties", 4, [(0, 1, None), (0, 2, 2), (1, 3, 1)])
        turned = ("ties", 4, [(0, 2, 2), (1, 3, 1), (2, 3, None)])
        self.assertEqual(points_had(turned), points_had(league)[::-1])


class TestRefused(unittest.TestCase):
    def test_what_is_no_league(self):
        for thing in anything() + no_leagues() + [("plain", 4, [match]) for match in no_matches()]:
            for call in (matches_left, points_had):
                with self.subTest(call.__name__ + " " + name_of(thing)):
                    refused_with(self, NoLeague, call, thing)


class TestHandedInAndTold(unittest.TestCase):
    def test_what_is_handed_in_is_left_alone(self):
        things = some_leagues() + [("plain", 4, [(0, 3, 3), (0, 1, 0)]), ("plain", 9, [[0, 1, 0]]), [[0], [1]], None]
        for thing in things:
            for call in (is_league, matches_left, points_had):
                left_alone(self, call, thing)

    def test_what_is_told_is_the_askers_own(self):
        league = ("ties", 4, list(TIES))
        for call in (matches_left, points_had):
            told = call(league)
            kept = list(told)
            again = call(league)
            self.assertEqual(again, kept)
            self.assertIsNot(again, told)
            told.append("x")
            told[0] = None
            again.clear()
            self.assertEqual(call(league), kept)
            self.assertEqual(league, ("ties", 4, TIES))

    def test_nothing_is_kept_of_what_was_handed_in(self):
        played = list(TIES)
        league = ("ties", 4, played)
        self.assertEqual(points_had(league), [3, 0, 2, 1])
        played.pop()
        self.assertEqual(points_had(league), [3, 0, 0, 1])
        self.assertEqual(matches_left(league), [(0, 2), (1, 2), (1, 3), (2, 3)])
        played.append((0, 1, 0))
        self.assertIs(is_league(league), False)
        refused_with(self, NoLeague, matches_left, league)


if __name__ == "__main__":
    unittest.main()
