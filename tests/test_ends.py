"""[7]: the first end, how many, the end of a number and the number of an end; and [2], [3] as far as of these."""

import unittest
from itertools import permutations, product

from tests.helper import Agreeing, Angry, Own, all_outcomes, all_played, anything, anything_but_numbers
from tests.helper import anything_but_points, brought, calls_made, ends_by_points, ends_of, leagues_of, left_alone
from tests.helper import matches_of, name_of, points_far, points_near, points_renamed, points_to_ask, refused_with
from tests.helper import renamed, some_leagues, with_match
from wintold.ends import count_ends, end_by, first_end, number_of
from wintold.errors import NoEnd, NoLeague, NoNumber, NoPoints
from wintold.leagues import is_end, is_league, matches_left, points_had

FAR = 10 ** 25
SIX = ("ties", 6, [])
EVEN = [5] * 6


def ways_of(league):
    """How many ends bring each points, match by match, without the ends."""
    found = {tuple(points_had(league)): 1}
    for i, j in matches_left(league):
        behind = {}
        for points, many in found.items():
            for w in all_outcomes(league[0], i, j):
                here = brought((league[0], league[1], [(i, j, w)]))
                more = tuple(had + one for had, one in zip(points, here))
                behind[more] = behind.get(more, 0) + many
        found = behind
    return found


def rank(end):
    """The outcomes of an end as the document has them in order: i won, a tie, j won."""
    return [0 if w == i else 2 if w == j else 1 for i, j, w in end[2]]


class TestAgainstAllEnds(unittest.TestCase):
    def check(self, league, points, ends):
        """All that is told of the points, where these are all ends that bring them, in order."""
        self.assertEqual(count_ends(league, points), len(ends), (league, points))
        self.assertEqual(first_end(league, points), ends[0] if ends else None, (league, points))
        many = len(ends)
        for number in sorted({0, 1, many // 3, many // 2, many - 2, many - 1} & set(range(many))):
            end = end_by(league, points, number)
            self.assertEqual(end, ends[number], (league, points, number))
            self.assertEqual(number_of(league, points, end), number, (league, points, number))
        for number in (-1, -many, many, many + 1, FAR, -FAR):
            if not 0 <= number < many:
                refused_with(self, NoNumber, end_by, league, points, number)

    def check_league(self, league, step=1):
        table = ends_by_points(league)
        for points in points_to_ask(league, table, step):
            self.check(league, points, table.get(tuple(points), []))

    def test_two_and_three_players(self):
        for kind, n, highest in (("plain", 2, 2), ("ties", 2, 3), ("plain", 3, 3), ("ties", 3, 5)):
            for league in leagues_of(kind, n)[::3]:
                table = ends_by_points(league)
                for points in list(product(range(-1, highest + 1), repeat=n)) + points_far(n):
                    self.check(league, list(points), table.get(tuple(points), []))

    def test_leagues_with_no_some_and_all_matches_played(self):
        for league in some_leagues():
            if len(matches_left(league)) < 8:
                self.check_league(league, step=1 if len(matches_left(league)) < 4 else 9)

    def test_four_players(self):
        for league in leagues_of("plain", 4)[::101] + leagues_of("ties", 4)[::811]:
            self.check_league(league, step=3)
        self.check_league(("plain", 4, []))
        self.check_league(("ties", 4, []), step=2)

    def test_each_number_there_and_back(self):
        for league in (("plain", 4, []), ("ties", 4, [(1, 2, None)]), ("ties", 5, all_played("ties", 5, 1)[2][3:8])):
            for points, ends in list(ends_by_points(league).items())[::5]:
                told = [end_by(league, list(points), number) for number in range(len(ends))]
                self.assertEqual(told, ends)
                self.assertEqual([number_of(league, list(points), end) for end in ends], list(range(len(ends))))

    def test_five_players(self):
        self.check_league(("plain", 5, []), step=29)
        self.check_league(("ties", 5, [(0, 2, None), (1, 4, 4), (3, 4, 3)]), step=97)

    def test_six_players_plain(self):
        self.check_league(("plain", 6, []), step=173)

    def test_six_players_ties(self):
        played = [(0, 1, 0), (0, 4, None), (1, 2, 2), (1, 3, None), (2, 3, 2), (3, 5, 5), (4, 5, None)]
        self.check_league(("ties", 6, played), step=211)


class TestByHand(unittest.TestCase):
    def test_two_players(self):
        league = ("ties", 2, [])
        for points, w in (([2, 0], 0), ([1, 1], None), ([0, 2], 1)):
            end = ("ties", 2, [(0, 1, w)])
            self.assertEqual(count_ends(league, points), 1)
            self.assertEqual(first_end(league, points), end)
            self.assertEqual(end_by(league, points, 0), end)
            self.assertEqual(number_of(league, points, end), 0)
        self.assertEqual(count_ends(("plain", 2, []), [1, 1]), 0)
        self.assertIsNone(first_end(("plain", 2, []), [1, 1]))

    def test_the_order_of_outcomes(self):
        league = ("ties", 3, [])
        ends = [
            ("ties", 3, [(0, 1, 0), (0, 2, 2), (1, 2, 1)]),
            ("ties", 3, [(0, 1, None), (0, 2, None), (1, 2, None)]),
            ("ties", 3, [(0, 1, 1), (0, 2, 0), (1, 2, 2)]),
        ]
        self.assertEqual(count_ends(league, [2, 2, 2]), 3)
        self.assertEqual([end_by(league, [2, 2, 2], number) for number in range(3)], ends)
        self.assertEqual([number_of(league, [2, 2, 2], end) for end in ends], [0, 1, 2])
        self.assertEqual(first_end(league, [2, 2, 2]), ends[0])
        self.assertEqual(first_end(("ties", 3, [(0, 2, None)]), [2, 2, 2]), ends[1])
        self.assertEqual(first_end(("ties", 3, [(1, 2, 2)]), [2, 2, 2]), ends[2])
        self.assertIsNone(first_end(("ties", 3, [(0, 2, None), (1, 2, 2)]), [2, 2, 2]))

    def test_played_matches_are_as_they_were(self):
        league = ("plain", 4, [(0, 2, 2), (1, 3, 1)])
        self.assertEqual(first_end(league, [2, 2, 1, 1]),
                         ("plain", 4, [(0, 1, 0), (0, 2, 2), (0, 3, 0), (1, 2, 1), (1, 3, 1), (2, 3, 3)]))

    def test_all_played(self):
        for kind in ("plain", "ties"):
            for n in range(2, 7):
                league = all_played(kind, n, 1)
                points = brought(league)
                self.assertEqual(count_ends(league, points), 1)
                self.assertEqual(first_end(league, points), league)
                self.assertEqual(end_by(league, points, 0), league)
                self.assertEqual(number_of(league, points, league), 0)
                refused_with(self, NoNumber, end_by, league, points, 1)
                for other in points_near(points):
                    self.assertEqual(count_ends(league, other), 0)
                    self.assertIsNone(first_end(league, other))
                    refused_with(self, NoNumber, end_by, league, other, 0)
                    refused_with(self, NoEnd, number_of, league, other, league)

    def test_whole_numbers_are_told(self):
        for points in ([2, 2, 2], [6, 0, 0]):
            self.assertIs(type(count_ends(("ties", 3, []), points)), int)
        self.assertIs(type(number_of(("ties", 2, []), [2, 0], ("ties", 2, [(0, 1, 0)]))), int)


class TestSixPlayersNonePlayed(unittest.TestCase):
    def test_the_counts(self):
        for kind in ("plain", "ties"):
            league = (kind, 6, [])
            table = ways_of(league)
            self.assertEqual(sum(table.values()), len(all_outcomes(kind, 0, 1)) ** 15)
            for points in sorted(table)[::len(table) // 40]:
                self.assertEqual(count_ends(league, list(points)), table[points], points)
            for points in points_near(EVEN) + points_near([10, 8, 6, 4, 2, 0]) + points_near([5, 4, 3, 2, 1, 0]):
                self.assertEqual(count_ends(league, points), table.get(tuple(points), 0), points)
        self.assertEqual(count_ends(SIX, EVEN), max(table.values()))
        self.assertEqual(count_ends(SIX, [10, 8, 6, 4, 2, 0]), 1)

    def test_numbers_there_and_back(self):
        many = count_ends(SIX, EVEN)
        self.assertEqual(many, 7839)
        before = None
        for number in [0, 1, 2] + list(range(100, many, 619)) + [many // 2, many - 2, many - 1]:
            end = end_by(SIX, EVEN, number)
            self.assertIs(is_end(SIX, EVEN, end), True)
            self.assertEqual(number_of(SIX, EVEN, end), number)
            if before is not None and before[0] < number:
                self.assertLess(before[1], rank(end))
            before = (number, rank(end))
        self.assertEqual(first_end(SIX, EVEN), end_by(SIX, EVEN, 0))
        refused_with(self, NoNumber, end_by, SIX, EVEN, many)
        refused_with(self, NoNumber, end_by, SIX, EVEN, -1)

    def test_the_number_is_how_many_go_ahead(self):
        for number in (0, 1234, 5000, 7838):
            end = end_by(SIX, EVEN, number)
            ahead = 0
            league = SIX
            for i, j, told in end[2]:
                outcomes = all_outcomes("ties", i, j)
                for w in outcomes[:outcomes.index(told)]:
                    ahead += count_ends(with_match(league, (i, j, w)), EVEN)
                league = with_match(league, (i, j, told))
            self.assertEqual(ahead, number)

    def test_the_last_end_is_the_first_one_turned(self):
        turned = {0: 2, 1: 1, 2: 0}
        last = end_by(SIX, EVEN, count_ends(SIX, EVEN) - 1)
        self.assertEqual([turned[w] for w in rank(last)], rank(first_end(SIX, EVEN)))

    def test_nothing_is_reckoned_anew_for_each_end(self):
        for points in (EVEN, [5, 5, 5, 5, 5, 4], [7, 6, 5, 5, 4, 3], [FAR] * 6, [6] * 6):
            self.assertLess(calls_made(count_ends, SIX, points), 100000, points)
            self.assertLess(calls_made(first_end, SIX, points), 100000, points)
        self.assertLess(calls_made(end_by, SIX, EVEN, 7838), 100000)
        self.assertLess(calls_made(number_of, SIX, EVEN, end_by(SIX, EVEN, 7838)), 100000)


class TestThePromise(unittest.TestCase):
    def test_what_is_told_is_an_end_that_brings_the_points(self):
        for league in some_leagues():
            known = brought(all_played(league[0], league[1], 0))
            for points in [known] + points_near(known):
                end = first_end(league, points)
                self.assertEqual(end is None, count_ends(league, points) == 0)
                if end is not None:
                    self.assertIs(is_end(league, points, end), True, (league, points))
                    self.assertEqual(number_of(league, points, end), 0)

    def test_players_called_otherwise(self):
        league = ("ties", 4, [(0, 1, None), (0, 3, 3)])
        for points in ([3, 3, 3, 3], [2, 3, 1, 6], [5, 1, 2, 4], [1, 3, 3, 5], [4, 3, 3, 3], [0, 4, 4, 4]):
            many = count_ends(league, points)
            for names in permutations(range(4)):
                other = renamed(league, names)
                named = points_renamed(points, names)
                self.assertEqual(count_ends(other, named), many, (points, names))
                if many > 0:
                    numbers = [number_of(other, named, renamed(end_by(league, points, number), names))
                               for number in range(many)]
                    self.assertEqual(sorted(numbers), list(range(many)))


class TestNoNumber(unittest.TestCase):
    def test_numbers_that_are_none(self):
        league = ("ties", 3, [])
        for points, many in (([2, 2, 2], 3), ([6, 0, 0], 0), ([3, 2, 1], 2)):
            self.assertEqual(count_ends(league, points), many)
            for number in (-1, -2, -many - 1, many, many + 1, FAR, -FAR, FAR * FAR):
                refused_with(self, NoNumber, end_by, league, points, number)
            for number in anything_but_numbers() + ["0", b"0", [0], (0,), {0: 0}]:
                with self.subTest(name_of(number)):
                    refused_with(self, NoNumber, end_by, league, points, number)


class TestNoEnd(unittest.TestCase):
    league = ("ties", 3, [(0, 1, 0)])
    end = ("ties", 3, [(0, 1, 0), (0, 2, None), (1, 2, 2)])
    points = [3, 0, 3]

    def test_an_end(self):
        self.assertEqual(number_of(self.league, self.points, self.end), 0)

    def test_ends_that_are_none(self):
        plain = ("plain", 3, [(0, 1, 0), (0, 2, 0), (1, 2, 1)])
        others = [
            self.league, ("ties", 3, []), ("ties", 3, self.end[2][:2]), ("ties", 3, self.end[2][1:]),
            ("ties", 3, [(0, 1, 1), (0, 2, 0), (1, 2, 2)]), ("ties", 3, [(0, 1, None), (0, 2, 0), (1, 2, 2)]),
            ("ties", 3, [(0, 1, 0), (0, 2, 0), (1, 2, 2)]), ("ties", 3, [(0, 1, 0), (0, 2, None), (1, 2, None)]),
            plain, ("ties", 2, [(0, 1, 0)]), ("ties", 4, self.end[2]), all_played("ties", 4, 0),
            ("ties", 3, self.end[2][::-1]), ("ties", 3, tuple(self.end[2])), list(self.end), self.end[2],
            ("ties", 3, [(0, 1, False), (0, 2, None), (1, 2, 2)]), ("ties", 3, self.end[2] + [(1, 2, 2)]),
            ("ties", 3, self.end[2][:2] + [Angry()]), ("ties", 3, self.end[2][:2] + [(1, 2, Agreeing(int))]),
            ("ties", 3, self.end[2][:2] + [(1, 2, Own())]), 0, self.points,
        ]
        for thing in others + anything():
            with self.subTest(name_of(thing)):
                refused_with(self, NoEnd, number_of, self.league, self.points, thing)
        refused_with(self, NoEnd, number_of, ("plain", 3, []), [4, 2, 0], ("ties", 3, plain[2]))

    def test_ends_that_bring_other_points(self):
        for league in (self.league, ("ties", 3, []), self.end):
            for points in points_near(self.points) + points_far(3):
                refused_with(self, NoEnd, number_of, league, points, self.end)

    def test_every_end_but_of_these_points(self):
        league = ("ties", 3, [(1, 2, None)])
        ends = ends_by_points(league)
        for points, right in ends.items():
            for end in ends_of(("ties", 3, [])):
                if end in right:
                    self.assertEqual(number_of(league, list(points), end), right.index(end))
                else:
                    refused_with(self, NoEnd, number_of, league, list(points), end)


class TestRefused(unittest.TestCase):
    def test_what_is_no_league(self):
        given = ([1, 1, 1], [True, 1, 1], None, Angry())
        for league in anything() + [("plain", 3, [(0, 1, None)]), ("ties", 7, []), ["ties", 3, []]]:
            for points in given:
                with self.subTest(name_of(league) + " " + name_of(points)):
                    refused_with(self, NoLeague, first_end, league, points)
                    refused_with(self, NoLeague, count_ends, league, points)
                    for more in (0, -1, None, ("plain", 3, []), Angry()):
                        refused_with(self, NoLeague, end_by, league, points, more)
                        refused_with(self, NoLeague, number_of, league, points, more)

    def test_what_is_no_points(self):
        for league in (("plain", 3, [(0, 1, 0)]), all_played("plain", 3, 0)):
            for points in anything_but_points(3) + [[1, 1, True], [False, 2, 1], [1, None, 1], ["1", 1, 1], (1, 1, 1)]:
                with self.subTest(name_of(points)):
                    refused_with(self, NoPoints, first_end, league, points)
                    refused_with(self, NoPoints, count_ends, league, points)
                    for more in (0, -1, None, league, "end", Angry()):
                        refused_with(self, NoPoints, end_by, league, points, more)
                        refused_with(self, NoPoints, number_of, league, points, more)


class TestHandedInAndTold(unittest.TestCase):
    def test_what_is_handed_in_is_left_alone(self):
        end = ("ties", 3, [(0, 1, None), (0, 2, 2), (1, 2, 2)])
        for league in (("ties", 3, [(0, 1, None)]), end, ("ties", 3, [(1, 2, 2), (0, 1, None)]), ["ties", [3]]):
            for points in ([1, 1, 4], [0, 0, 0], [2, 2, 2], [True, 1, 4], [1, 1], [[1], [1], [4]]):
                left_alone(self, first_end, league, points)
                left_alone(self, count_ends, league, points)
                for number in (0, 1, -1, [0], [[1]], {0: [1]}):
                    left_alone(self, end_by, league, points, number)
                for thing in (end, ("ties", 3, end[2][::-1]), ("ties", 3, []), [[1], {2: [3]}]):
                    left_alone(self, number_of, league, points, thing)

    def test_a_told_league_is_the_askers_own(self):
        for league in (("ties", 3, [(0, 1, None)]), ("ties", 3, [(0, 1, None), (0, 2, None), (1, 2, None)])):
            points = [2, 2, 2]
            whole = ("ties", 3, [(0, 1, None), (0, 2, None), (1, 2, None)])
            given = list(league[2])
            told = [first_end(league, points), first_end(league, points), end_by(league, points, 0),
                    end_by(league, points, 0)]
            for at, end in enumerate(told):
                self.assertEqual(end, whole)
                self.assertIs(type(end), tuple)
                self.assertIs(type(end[2]), list)
                self.assertTrue(all(type(match) is tuple for match in end[2]))
                self.assertIs(is_league(end), True)
                for other in told[:at] + [league]:
                    self.assertIsNot(end[2], other[2])
            for end in told:
                end[2].clear()
                end[2].append((0, 1, 1))
            self.assertEqual(league[2], given)
            self.assertEqual(first_end(league, points), whole)
            self.assertEqual(end_by(league, points, 0), whole)
            self.assertEqual(number_of(league, points, whole), 0)

    def test_nothing_is_kept_of_what_was_handed_in(self):
        played = [(0, 1, 0)]
        league = ("ties", 3, played)
        points = [2, 2, 2]
        self.assertEqual(count_ends(league, points), 1)
        told = first_end(league, points)
        played[0] = (0, 1, 1)
        self.assertEqual(count_ends(league, points), 1)
        self.assertEqual(told, ("ties", 3, [(0, 1, 0), (0, 2, 2), (1, 2, 1)]))
        self.assertEqual(first_end(league, points), ("ties", 3, [(0, 1, 1), (0, 2, 0), (1, 2, 2)]))
        refused_with(self, NoEnd, number_of, league, points, told)
        played.clear()
        self.assertEqual(count_ends(league, points), 3)
        self.assertEqual(number_of(league, points, told), 0)
        points[0] = 3
        self.assertEqual(count_ends(league, points), 0)
        refused_with(self, NoNumber, end_by, league, points, 0)

    def test_asked_twice(self):
        for league in (("ties", 5, []), ("plain", 5, [(0, 3, 3)])):
            points = brought(all_played(league[0], 5, 0))
            self.assertEqual(count_ends(league, points), count_ends(league, points))
            self.assertEqual(first_end(league, points), first_end(league, points))
            self.assertEqual(end_by(league, points, 1), end_by(league, points, 1))
            end = end_by(league, points, 1)
            self.assertEqual([number_of(league, points, end) for _ in range(3)], [1, 1, 1])
            self.assertEqual([match[:2] for match in end[2]], matches_of(5))


if __name__ == "__main__":
    unittest.main()
