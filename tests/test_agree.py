"""The answers of the stages agree with one another; [3]."""

import unittest
from itertools import product

from tests.helper import all_outcomes, all_played, brought, leagues_of, points_far, points_near, some_leagues
from tests.helper import with_match
from wintold.allpoints import all_points, count_points
from wintold.desk import Desk
from wintold.ends import count_ends, end_by, first_end, number_of
from wintold.errors import WinError
from wintold.firsts import can_be_first, can_be_first_alone, first_end_for, least_points, most_points
from wintold.keeper import Keeper
from wintold.leagues import is_end, matches_left, points_had
from wintold.sure import outcomes_of, sure_matches
from wintold.texts import read_league, read_points, show_league, show_points
from wintold.whether import can_be, first_set, set_shows


def leagues_and_points():
    """Leagues of both kinds and of 2 to 6 players, with points that ends bring, such near to them and far ones."""
    found = []
    for league in some_leagues() + leagues_of("ties", 3)[::9] + leagues_of("plain", 4)[::131]:
        kind, n, played = league
        known = {match[:2]: match for match in played}
        for turn in range(2):
            whole = [known.get(match[:2], match) for match in all_played(kind, n, turn)[2]]
            points = brought((kind, n, whole))
            found += [(league, other) for other in [points] + points_near(points)[turn::3] + points_far(n)[turn::4]]
    return found


def refusal_of(call, *given):
    """The class of the refusal that the call is met with, or None."""
    try:
        call(*given)
    except WinError as error:
        return type(error)
    return None


class TestAgree(unittest.TestCase):
    def test_whether_first_and_count(self):
        so = {True: 0, False: 0}
        for league, points in leagues_and_points():
            there = can_be(league, points)
            so[there] += 1
            end = first_end(league, points)
            self.assertIs(end is not None, there, (league, points))
            self.assertIs(count_ends(league, points) > 0, there, (league, points))
            showing = first_set(league, points)
            if there:
                self.assertEqual(end, end_by(league, points, 0))
                self.assertEqual(number_of(league, points, end), 0)
                self.assertIs(is_end(league, points, end), True)
                self.assertIsNone(showing)
            else:
                self.assertIs(set_shows(league, points, showing), True)
        self.assertGreater(so[True], 100)
        self.assertGreater(so[False], 100)

    def test_the_counts_with_a_match_played_come_to_the_count_of_all(self):
        for league, points in leagues_and_points():
            many = count_ends(league, points)
            for i, j in matches_left(league)[::3]:
                parts = [count_ends(with_match(league, (i, j, w)), points) for w in all_outcomes(league[0], i, j)]
                self.assertEqual(sum(parts), many, (league, points, i, j))

    def test_outcomes_are_those_that_leave_an_end(self):
        for league, points in leagues_and_points():
            for i, j in matches_left(league)[::2]:
                told = [w for w in all_outcomes(league[0], i, j) if count_ends(with_match(league, (i, j, w)), points)]
                self.assertEqual(outcomes_of(league, points, i, j), told, (league, points, i, j))

    def test_sure_matches_are_in_every_end(self):
        for league, points in leagues_and_points():
            many = count_ends(league, points)
            sure = sure_matches(league, points)
            if many == 0:
                self.assertEqual(sure, [])
            for i, j, w in sure:
                self.assertIn((i, j), matches_left(league))
                self.assertEqual(outcomes_of(league, points, i, j), [w])
                self.assertEqual(count_ends(with_match(league, (i, j, w)), points), many)
            for number in {0, many // 2, many - 1} & set(range(many)):
                end = end_by(league, points, number)
                for match in sure + league[2]:
                    self.assertIn(match, end[2])

    def test_played_matches_by_their_own_outcome(self):
        for league, points in leagues_and_points():
            there = can_be(league, points)
            for i, j, w in league[2][::3]:
                self.assertEqual(outcomes_of(league, points, i, j), [w] if there else [], (league, points, i, j))

    def test_points_told_are_those_with_an_end(self):
        for league in some_leagues():
            left = len(matches_left(league))
            if left <= 4:
                lists = all_points(league) if count_points(league) <= 16 else []
                for points in lists:
                    self.assertIs(can_be(league, points), True)
                    self.assertGreater(count_ends(league, points), 0)
                if lists != []:
                    ways = len(all_outcomes(league[0], 0, 1))
                    self.assertEqual(sum(count_ends(league, points) for points in lists), ways ** left)
                    for points in lists:
                        for other in points_near(points):
                            self.assertIs(can_be(league, other), other in lists)

    def test_the_counts_of_all_points_come_to_all_ends(self):
        for kind, highest in (("plain", 3), ("ties", 6)):
            for played in ([], [(0, 3, 3)], [(0, 1, 0), (2, 3, 2)]):
                league = (kind, 4, played)
                had = points_had(league)
                counts = [count_ends(league, list(points)) for points in product(range(highest + 1), repeat=4)
                          if sum(points) == 6 * {"plain": 1, "ties": 2}[kind]
                          and all(one >= low for one, low in zip(points, had))]
                self.assertEqual(sum(counts), len(all_outcomes(kind, 0, 1)) ** (6 - len(played)))
                self.assertEqual(len([many for many in counts if many > 0]), count_points(league))

    def test_who_can_be_first_by_all_points(self):
        for league in some_leagues():
            lists = all_points(league) if count_points(league) <= 16 else []
            for player in range(league[1] if lists != [] else 0):
                gaps = [points[player] - max(points[:player] + points[player + 1:]) for points in lists]
                self.assertIs(can_be_first(league, player), max(gaps) >= 0, (league, player))
                self.assertIs(can_be_first_alone(league, player), max(gaps) > 0, (league, player))
                self.assertEqual(least_points(league, player), min(points[player] for points in lists))
                self.assertEqual(most_points(league, player), max(points[player] for points in lists))
                ends = [first_end(league, points) for points, gap in zip(lists, gaps) if gap >= 0]
                self.assertIs(first_end_for(league, player) in ends, ends != [])

    def test_a_keeper_tells_what_is_told_of_its_league(self):
        for league, points in leagues_and_points()[::7]:
            keeper = Keeper(league, points)
            many = count_ends(league, points)
            self.assertEqual(keeper.league(), league)
            self.assertEqual(keeper.count(), many)
            self.assertEqual(keeper.sure(), sure_matches(league, points))
            for i, j in matches_left(league)[::4]:
                outcomes = outcomes_of(league, points, i, j)
                for w in all_outcomes(league[0], i, j):
                    before, now = keeper.play(i, j, w)
                    self.assertEqual(before, many)
                    self.assertEqual(now, count_ends(with_match(league, (i, j, w)), points))
                    self.assertIs(now > 0, w in outcomes)
                    self.assertEqual(keeper.back(), (now, many))

    def test_the_desk_tells_what_the_stages_tell(self):
        desk = Desk()
        for league, points in leagues_and_points()[::3]:
            if max(abs(one) for one in points) >= 10 ** 9:
                continue
            text = show_league(league)
            told = show_points(points)
            self.assertEqual(desk.say("league cup " + text), "ok")
            self.assertEqual(read_league(desk.say("show cup")), league)
            self.assertEqual(read_points(desk.say("points cup")), points_had(league))
            self.assertEqual(desk.say("left cup"), str(len(matches_left(league))))
            self.assertEqual(desk.say("many cup " + told), str(count_ends(league, points)))
            showing = first_set(league, points)
            self.assertEqual(desk.say("can cup " + told), "yes" if showing is None else " ".join(map(str, showing)))
            sure = sure_matches(league, points)
            so = desk.say("sure cup " + told)
            self.assertEqual(so, " ".join(show_league((league[0], league[1], sure)).split(" ")[2:]) or "none")
            for player in range(league[1]):
                self.assertEqual(desk.say(f"first cup {player}"), "yes" if can_be_first(league, player) else "no")
        self.assertEqual(desk.names(), ["cup"])

    def test_the_desk_and_a_keeper_play_alike(self):
        signs = {"<": 1, "=": None, ">": 0}
        for league in some_leagues()[::4]:
            points = [1] * league[1]
            desk = Desk()
            desk.say("league cup " + show_league(league))
            keeper = Keeper(league, points)
            for i, j, sign in product(range(0, 7, 2), range(7), "<=>"):
                w = None if sign == "=" else (i, j)[signs[sign]]
                played = [refusal_of(desk.say, f"play cup {i}{sign}{j}"), refusal_of(keeper.play, i, j, w)]
                self.assertIs(played[0], played[1], (league, i, j, sign))
                self.assertEqual(read_league(desk.say("show cup")), keeper.league())
            self.assertEqual(desk.say("many cup " + show_points(points)), str(keeper.count()))


if __name__ == "__main__":
    unittest.main()
