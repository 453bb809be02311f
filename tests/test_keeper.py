"""[11]: a Keeper, its matches played and taken back; and [2], [3] as far as of these."""

import unittest
from itertools import permutations, product
from random import Random

from tests.helper import Agreeing, Angry, Own, all_outcomes, all_played, anything, anything_but_numbers
from tests.helper import anything_but_points, brought, calls_made, ends_by_points, left_alone, matches_of, name_of
from tests.helper import points_far, points_near, points_renamed, refused_with, some_leagues, with_match
from wintold.ends import count_ends
from wintold.errors import NoLeague, NoMatch, NoOutcome, NoPoints
from wintold.keeper import Keeper
from wintold.leagues import is_league, matches_left
from wintold.sure import sure_matches

FAR = 10 ** 25


def without(league, match):
    """The league with a match of it not played."""
    kind, n, played = league
    return (kind, n, [one for one in played if one != match])


def told(keeper):
    """All that a Keeper tells of how it stands."""
    return keeper.league(), keeper.count(), keeper.sure(), keeper.played()


class TestAgainstLeaguesMadeAnew(unittest.TestCase):
    def check(self, keeper, league, points, played):
        """All that the Keeper tells is what is told of this league, made anew."""
        self.assertEqual(keeper.league(), league)
        self.assertIs(is_league(keeper.league()), True)
        self.assertEqual(keeper.count(), count_ends(league, points), (league, points))
        self.assertEqual(keeper.sure(), sure_matches(league, points), (league, points))
        self.assertEqual(keeper.played(), played)

    def walk(self, league, points, seed, steps):
        """Plays and takes back by chance, with a league made anew beside it; in the end all is taken back."""
        chance = Random(seed)
        keeper = Keeper(league, points)
        began = league
        played = []
        self.check(keeper, league, points, 0)
        for step in range(steps + len(matches_of(league[1]))):
            before = count_ends(league, points)
            left = matches_left(league)
            if step < steps and left != [] and (played == [] or chance.random() < 0.6):
                i, j = chance.choice(left)
                w = chance.choice(all_outcomes(league[0], i, j))
                league = with_match(league, (i, j, w))
                played.append((i, j, w))
                self.assertEqual(keeper.play(i, j, w), (before, count_ends(league, points)))
            elif played != []:
                league = without(league, played.pop())
                self.assertEqual(keeper.back(), (before, count_ends(league, points)))
            else:
                refused_with(self, NoMatch, keeper.back)
            self.check(keeper, league, points, len(played))
        self.assertEqual(played, [])
        self.assertEqual(keeper.league(), began)

    def test_leagues_with_no_some_and_all_matches_played(self):
        for at, league in enumerate(some_leagues()):
            if len(matches_left(league)) < 9:
                known = {match[:2]: match for match in league[2]}
                whole = [known.get(match[:2], match) for match in all_played(league[0], league[1], at)[2]]
                self.walk(league, brought((league[0], league[1], whole)), at, 12)

    def test_points_that_no_end_brings(self):
        for kind, n in product(("plain", "ties"), (2, 3, 5)):
            near = points_near(brought(all_played(kind, n, 1)))
            for at, points in enumerate(near[::5] + points_far(n)):
                self.walk((kind, n, []), points, at, 4)

    def test_six_players(self):
        self.walk(("ties", 6, []), [5] * 6, 1, 12)
        self.walk(("plain", 6, [(2, 3, 3)]), [3, 3, 3, 2, 2, 2], 2, 20)

    def test_every_way_through_a_small_league(self):
        league = ("ties", 3, [])
        for points in ([2, 2, 2], [3, 2, 1], [4, 2, 0], [4, 1, 1]):
            table = ends_by_points(league)[tuple(points)]
            for order in permutations(matches_of(3)):
                for outcomes in product((0, 1, 2), repeat=3):
                    keeper = Keeper(league, points)
                    ends = table
                    for (i, j), turn in zip(order, outcomes):
                        match = (i, j, (i, None, j)[turn])
                        fewer = [end for end in ends if match in end[2]]
                        self.assertEqual(keeper.play(*match), (len(ends), len(fewer)))
                        ends = fewer
                    self.assertEqual(keeper.sure(), [])
                    self.assertEqual(keeper.played(), 3)

    def test_sixty_played_and_taken_back(self):
        keeper = Keeper(("ties", 6, []), [5] * 6)
        began = told(keeper)
        for turn in range(4):
            for i, j, w in all_played("ties", 6, turn)[2][::-1]:
                keeper.play(i, j, w)
            self.assertEqual(keeper.league(), all_played("ties", 6, turn))
            self.assertEqual(keeper.played(), 15)
            for _ in range(15):
                keeper.back()
            self.assertEqual(told(keeper), began)
        refused_with(self, NoMatch, keeper.back)


class TestByHand(unittest.TestCase):
    def test_played_and_taken_back(self):
        keeper = Keeper(("ties", 3, []), [2, 2, 2])
        self.assertEqual(told(keeper), (("ties", 3, []), 3, [], 0))
        self.assertEqual(keeper.play(1, 2, 2), (3, 1))
        self.assertEqual(told(keeper), (("ties", 3, [(1, 2, 2)]), 1, [(0, 1, 1), (0, 2, 0)], 1))
        self.assertEqual(keeper.play(0, 1, None), (1, 0))
        self.assertEqual(told(keeper), (("ties", 3, [(0, 1, None), (1, 2, 2)]), 0, [], 2))
        self.assertEqual(keeper.back(), (0, 1))
        self.assertEqual(keeper.play(0, 1, 1), (1, 1))
        self.assertEqual(keeper.play(0, 2, 0), (1, 1))
        self.assertEqual(told(keeper), (("ties", 3, [(0, 1, 1), (0, 2, 0), (1, 2, 2)]), 1, [], 3))
        self.assertEqual([keeper.back() for _ in range(3)], [(1, 1), (1, 1), (1, 3)])
        self.assertEqual(told(keeper), (("ties", 3, []), 3, [], 0))

    def test_the_last_one_played_is_taken_back_first(self):
        keeper = Keeper(("plain", 4, [(0, 1, 1)]), [1, 2, 2, 1])
        for match in ((2, 3, 2), (0, 2, 0), (1, 3, 3)):
            keeper.play(*match)
        self.assertEqual(keeper.league(), ("plain", 4, [(0, 1, 1), (0, 2, 0), (1, 3, 3), (2, 3, 2)]))
        keeper.back()
        self.assertEqual(keeper.league(), ("plain", 4, [(0, 1, 1), (0, 2, 0), (2, 3, 2)]))
        keeper.back()
        self.assertEqual(keeper.league(), ("plain", 4, [(0, 1, 1), (2, 3, 2)]))
        keeper.back()
        self.assertEqual(keeper.league(), ("plain", 4, [(0, 1, 1)]))

    def test_beyond_the_beginning(self):
        for league in (("plain", 2, []), ("ties", 3, [(0, 1, None), (0, 2, 2)]), all_played("ties", 6, 1)):
            keeper = Keeper(league, [1] * league[1])
            began = told(keeper)
            self.assertEqual(keeper.played(), 0)
            for _ in range(2):
                refused_with(self, NoMatch, keeper.back)
                self.assertEqual(told(keeper), began)
            for i, j in matches_left(league):
                keeper.play(i, j, i)
                keeper.back()
                refused_with(self, NoMatch, keeper.back)
                keeper.play(i, j, j)
                keeper.back()
                self.assertEqual(told(keeper), began)

    def test_two_players(self):
        keeper = Keeper(("plain", 2, []), [0, 1])
        self.assertEqual(keeper.sure(), [(0, 1, 1)])
        self.assertEqual(keeper.play(0, 1, 0), (1, 0))
        self.assertEqual(keeper.back(), (0, 1))
        self.assertEqual(keeper.play(0, 1, 1), (1, 1))

    def test_the_kinds_of_values(self):
        keeper = Keeper(("ties", 2, []), [1, 1])
        for told_one in (keeper.play(0, 1, None), keeper.back()):
            self.assertIs(type(told_one), tuple)
            self.assertEqual([type(many) for many in told_one], [int, int])
        self.assertIs(type(keeper.league()), tuple)
        self.assertIs(type(keeper.count()), int)
        self.assertIs(type(keeper.sure()), list)
        self.assertIs(type(keeper.played()), int)

    def test_nothing_is_reckoned_anew_for_each_end(self):
        keeper = Keeper(("ties", 6, []), [5] * 6)
        self.assertLess(calls_made(keeper.play, 2, 4, None), 100000)
        self.assertLess(calls_made(keeper.sure), 100000)
        self.assertLess(calls_made(keeper.back), 100000)


class TestRefusedDeeds(unittest.TestCase):
    def keepers(self):
        """Keepers in the midst of their matches."""
        found = []
        for kind in ("plain", "ties"):
            keeper = Keeper((kind, 4, [(0, 1, 0)]), [3, 1, 1, 1])
            keeper.play(2, 3, 3)
            found.append(keeper)
        return found

    def check(self, error, i, j, w):
        for keeper in self.keepers():
            before = told(keeper)
            with self.subTest(" ".join([name_of(i), name_of(j), name_of(w)])):
                refused_with(self, error, keeper.play, i, j, w)
                self.assertEqual(told(keeper), before)
                self.assertEqual(keeper.back()[1], keeper.count())
                self.assertEqual(keeper.league()[2], [(0, 1, 0)])

    def test_no_match_that_is_left(self):
        for i, j in ((0, 1), (2, 3), (1, 0), (3, 2), (2, 0), (1, 1), (0, 4), (4, 5), (-1, 2), (0, -1), (3, 4), (0, FAR),
                     (-FAR, 0), (FAR, FAR)):
            for w in (i, j, None, 7, True, "x"):
                self.check(NoMatch, i, j, w)

    def test_a_truth_is_no_player(self):
        for i, j in ((False, 2), (True, 2), (0, True), (False, True), (True, 3), (False, False)):
            for w in (0, 2, None, False):
                self.check(NoMatch, i, j, w)

    def test_players_of_any_kind(self):
        for thing in anything_but_numbers() + ["2", b"2", [2], (2,), Agreeing(int)]:
            self.check(NoMatch, thing, 2, 2)
            self.check(NoMatch, 0, thing, 0)
            self.check(NoMatch, thing, thing, thing)
        self.check(NoMatch, Angry(), Angry(), Angry())
        self.check(NoMatch, (0, 2), None, None)

    def test_no_outcome(self):
        for w in [True, False, 1, 3, 4, -1, FAR, -FAR, "0", "2", "", b"0", [0], (2,), {}, {0: 2}, Own(), Angry(),
                  Agreeing(int), Agreeing(type(None)), int, (0, 2), Ellipsis]:
            self.check(NoOutcome, 0, 2, w)
        for thing in anything_but_numbers():
            if thing is not None:
                self.check(NoOutcome, 1, 3, thing)
        self.check(NoOutcome, 1, 2, True)
        self.check(NoOutcome, 1, 2, 0)

    def test_a_tie_in_leagues_with_ties_alone(self):
        plain, ties = self.keepers()
        before = told(plain)
        refused_with(self, NoOutcome, plain.play, 0, 2, None)
        self.assertEqual(told(plain), before)
        ties.play(0, 2, None)
        self.assertEqual(ties.league()[2], [(0, 1, 0), (0, 2, None), (2, 3, 3)])
        refused_with(self, NoMatch, ties.play, 0, 2, None)
        refused_with(self, NoMatch, plain.play, 0, 1, None)

    def test_none_left(self):
        for kind, n in product(("plain", "ties"), range(2, 7)):
            keeper = Keeper(all_played(kind, n, 0), [0] * n)
            before = told(keeper)
            for i, j in matches_of(n):
                refused_with(self, NoMatch, keeper.play, i, j, i)
            self.assertEqual(told(keeper), before)

    def test_a_match_taken_back_is_left_again(self):
        keeper = Keeper(("plain", 3, []), [1, 1, 1])
        keeper.play(0, 1, 0)
        refused_with(self, NoMatch, keeper.play, 0, 1, 1)
        keeper.back()
        self.assertEqual(keeper.play(0, 1, 1), (2, 1))

    def test_refused_between_deeds(self):
        league = ("ties", 4, [])
        points = [3, 3, 3, 3]
        keeper = Keeper(league, points)
        for match in ((1, 2, None), (0, 3, 3), (0, 1, 0), (2, 3, 2)):
            refused_with(self, NoOutcome, keeper.play, match[0], match[1], 7)
            keeper.play(*match)
            league = with_match(league, match)
            refused_with(self, NoMatch, keeper.play, *match)
            self.assertEqual(keeper.count(), count_ends(league, points))
        for left in (3, 2, 1, 0):
            self.assertEqual(len(keeper.league()[2]), left + 1)
            keeper.back()
            self.assertEqual(keeper.played(), left)
        self.assertEqual(keeper.league(), ("ties", 4, []))


class TestRefusedAtFirst(unittest.TestCase):
    def test_what_is_no_league(self):
        for league in anything() + [("plain", 3, [(0, 1, None)]), ("ties", 7, []), ["ties", 3, []]]:
            for points in ([1, 1, 1], [True, 1, 1], None, Angry()):
                with self.subTest(name_of(league) + " " + name_of(points)):
                    refused_with(self, NoLeague, Keeper, league, points)

    def test_what_is_no_points(self):
        for league in (("plain", 3, [(0, 1, 0)]), all_played("plain", 3, 0)):
            for points in anything_but_points(3) + [[1, 1, True], [False, 2, 1], [1, None, 1], ["1", 1, 1], (1, 1, 1)]:
                with self.subTest(name_of(points)):
                    refused_with(self, NoPoints, Keeper, league, points)


class TestThePromise(unittest.TestCase):
    def test_players_called_otherwise(self):
        points = [4, 3, 3, 2]
        played = [(0, 3, 3), (1, 2, None), (0, 2, 0)]
        keeper = Keeper(("ties", 4, []), points)
        counts = [keeper.play(*match) for match in played] + [keeper.back() for _ in played]
        for names in permutations(range(4)):
            other = Keeper(("ties", 4, []), points_renamed(points, names))
            found = []
            for i, j, w in played:
                low, high = sorted((names[i], names[j]))
                found.append(other.play(low, high, None if w is None else names[w]))
            self.assertEqual(found + [other.back() for _ in played], counts)

    def test_another_way_to_the_same_league(self):
        matches = [(0, 1, 1), (0, 3, None), (1, 2, 1), (2, 3, 3)]
        told_ones = []
        for order in permutations(matches):
            keeper = Keeper(("ties", 4, []), [3, 5, 1, 3])
            for match in order:
                keeper.play(*match)
            told_ones.append(told(keeper))
        self.assertEqual(told_ones, [told_ones[0]] * 24)
        self.assertEqual(told_ones[0][:3], told(Keeper(("ties", 4, matches), [3, 5, 1, 3]))[:3])


class TestHandedInAndTold(unittest.TestCase):
    def test_what_is_handed_in_is_left_alone(self):
        for league in (("ties", 3, [(0, 1, None)]), ("ties", 3, []), ["ties", [3]], ("ties", 3, [(1, 2, 2), (0, 1, 1)])):
            for points in ([1, 1, 4], [True, 1, 4], [1, 1], [[1], [1], [4]]):
                left_alone(self, Keeper, league, points)
        played = [(0, 1, 0)]
        points = [2, 2, 2]
        keeper = Keeper(("ties", 3, played), points)
        for given in ((0, 2, 2), (0, [2], 2), ([0], 2, {2: [2]}), (1, 2, [1])):
            left_alone(self, keeper.play, *given)
        keeper.back()
        self.assertEqual((played, points), ([(0, 1, 0)], [2, 2, 2]))

    def test_nothing_is_kept_of_what_was_handed_in(self):
        played = [(0, 1, 0)]
        points = [2, 2, 2]
        keeper = Keeper(("ties", 3, played), points)
        before = told(keeper)
        played.append((0, 2, 0))
        points[0] = 4
        points.append(0)
        self.assertEqual(told(keeper), before)
        self.assertEqual(keeper.play(0, 2, 2), (1, 1))
        played.clear()
        points.clear()
        self.assertEqual(keeper.back(), (1, 1))
        self.assertEqual(told(keeper), before)

    def test_what_is_told_is_the_askers_own(self):
        keeper = Keeper(("plain", 4, [(0, 1, 0)]), [3, 1, 1, 1])
        kept = []
        for match in ((0, 2, 0), (2, 3, 3), None, None):
            kept.append(told(keeper))
            league, sure = keeper.league(), keeper.sure()
            self.assertIsNot(keeper.league()[2], league[2])
            self.assertIsNot(keeper.sure(), sure)
            league[2].append("x")
            league[2][0] = None
            sure.append("x")
            sure[0] = None
            self.assertEqual(told(keeper), kept[-1])
            if match is None:
                keeper.back()
                self.assertEqual(told(keeper), kept[keeper.played()])
            else:
                keeper.play(*match)
        self.assertEqual(told(keeper), kept[0])

    def test_two_keepers_are_each_their_own(self):
        league = ("ties", 3, [])
        points = [2, 2, 2]
        one, other = Keeper(league, points), Keeper(league, points)
        one.play(0, 1, None)
        self.assertEqual(told(other), (("ties", 3, []), 3, [], 0))
        refused_with(self, NoMatch, other.back)
        other.play(0, 1, 0)
        self.assertEqual(one.league(), ("ties", 3, [(0, 1, None)]))
        again = Keeper(one.league(), points)
        one.back()
        self.assertEqual(again.league(), ("ties", 3, [(0, 1, None)]))
        self.assertEqual(again.played(), 0)

    def test_asked_twice(self):
        keeper = Keeper(("ties", 5, []), [4] * 5)
        keeper.play(1, 3, None)
        self.assertEqual(told(keeper), told(keeper))


if __name__ == "__main__":
    unittest.main()
