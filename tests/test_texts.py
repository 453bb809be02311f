"""[12]: leagues and points as texts, there and back; and [2], [3] as far as of these."""

import re
import unittest
from itertools import product

from tests.helper import Agreeing, Angry, AngryList, Own, all_played, anything, anything_but_texts, brought
from tests.helper import leagues_of, left_alone, name_of, points_far, refused_with, some_leagues, texts_near
from wintold.errors import NoLeague, NoPoints, NoText
from wintold.leagues import is_league
from wintold.texts import read_league, read_points, show_league, show_points

FAR = 10 ** 25
NUMBER = "(?:0|-?[1-9][0-9]*)"
POINTS = re.compile(f"{NUMBER}(?: {NUMBER}){{1,5}}")
# Numbers as they are not written.
NO_NUMBERS = ["", "-", "-0", "00", "01", "-01", "007", "+1", "--1", "1-", "1.0", "1.", ".5", "1e3", "0x1", "1_0", "1,0",
              "x", "1x", "\t1", "1\t", "1\n", "\n1", "None", "True", "[1", "(1,"]


def league_in(text):
    """The league that the text writes, or None, read by other means than the program's."""
    if not re.fullmatch("(plain|ties) [2-6]( [0-9][<=>][0-9])*", text):
        return None
    kind, n, *words = text.split(" ")
    played = []
    for word in words:
        i, j = int(word[0]), int(word[2])
        if not i < j < int(n) or (word[1] == "=" and kind == "plain"):
            return None
        if played != [] and played[-1][:2] >= (i, j):
            return None
        played.append((i, j, {"<": j, "=": None, ">": i}[word[1]]))
    return kind, int(n), played


def are_points(thing):
    """Whether this is points of some number of players; anything() has such of two."""
    return type(thing) is list and 2 <= len(thing) <= 6 and all(type(one) is int for one in thing)


class TestLeagues(unittest.TestCase):
    def test_by_hand(self):
        for league, text in ((("ties", 3, [(0, 1, 0), (1, 2, None)]), "ties 3 0>1 1=2"),
                             (("plain", 2, []), "plain 2"),
                             (("ties", 6, []), "ties 6"),
                             (("plain", 2, [(0, 1, 1)]), "plain 2 0<1"),
                             (("ties", 2, [(0, 1, None)]), "ties 2 0=1"),
                             (("plain", 4, [(0, 3, 3), (1, 2, 1), (2, 3, 3)]), "plain 4 0<3 1>2 2<3"),
                             (("ties", 6, [(0, 5, 5), (4, 5, 4)]), "ties 6 0<5 4>5")):
            self.assertEqual(show_league(league), text)
            self.assertEqual(read_league(text), league)

    def test_all_played(self):
        self.assertEqual(show_league(all_played("ties", 6, 0)),
                         "ties 6 0>1 0=2 0<3 0>4 0=5 1<2 1>3 1=4 1<5 2>3 2=4 2<5 3>4 3=5 4<5")
        self.assertEqual(show_league(all_played("plain", 4, 1)), "plain 4 0<1 0>2 0<3 1>2 1<3 2>3")

    def test_there_and_back(self):
        leagues = some_leagues() + leagues_of("plain", 4)[::5] + leagues_of("ties", 4)[::37]
        for kind, n in product(("plain", "ties"), (2, 3)):
            leagues += leagues_of(kind, n)
        texts = set()
        for league in leagues:
            text = show_league(league)
            self.assertIs(type(text), str)
            self.assertEqual(read_league(text), league)
            self.assertEqual(league_in(text), league)
            self.assertIs(is_league(read_league(text)), True)
            texts.add(text)
        self.assertEqual(len(texts), len({repr(league) for league in leagues}))

    def test_no_league_is_written(self):
        for league in anything() + [("plain", 3, [(0, 1, None)]), ("ties", 7, []), ["ties", 3, []], ("ties", True, []),
                                    ("ties", 3, [(1, 2, 1), (0, 1, 0)]), "ties 3", ("ties", 6, [Angry()])]:
            with self.subTest(name_of(league)):
                refused_with(self, NoLeague, show_league, league)


class TestReadLeague(unittest.TestCase):
    def test_no_text(self):
        for thing in anything_but_texts() + [("ties", 3, []), ["ties", "3"], b"ties 3", ("ties 3",), Agreeing(str)]:
            with self.subTest(name_of(thing)):
                refused_with(self, NoText, read_league, thing)

    def test_no_league(self):
        others = ["", " ", "plain", "ties", "3", "plain ", " plain 3", "plain 3 ", "plain  3", "plain 3  0>1", "plain\t3",
                  "plain 3\n", "\nplain 3", "plain 3\n0>1", "Plain 3", "PLAIN 3", "tie 3", "plains 3", "3 plain",
                  "plain3", "plain,3", "plain 1", "plain 7", "plain 0", "plain -3", "plain 10", "plain 33", "plain 3.0",
                  "plain " + str(FAR), "plain -" + str(FAR), "plain 3 3", "plain 3 0>1 ", "plain plain 3",
                  "('plain', 3, [])", "None", "ties 3 None"]
        others += ["plain " + number for number in NO_NUMBERS + ["03", "+3", "-3", "3x", "3-"]]
        for text in others:
            with self.subTest(text):
                self.assertIsNone(league_in(text))
                refused_with(self, NoText, read_league, text)

    def test_no_matches(self):
        for match in ("0=1", "1>0", "1<0", "0>0", "1<1", "0>3", "0<4", "3>4", "0>9", "2>1", "01", "0>", ">1", ">", "0",
                      "", "0>>1", "0>=1", "0-1", "0:1", "0 > 1", "0> 1", "00>1", "0>01", "-0>1", "0>-1", "+0>1", "a>b",
                      "0>1x", "x0>1", "0>1\n", "0>1\t", "0\t1", "0>1,", "0>1 0>1", "0>1 0<1", "0<1 0>1", "1>2 0>1",
                      "0>2 0>1", "0>1 1>2 0>2", "0>1  0>2", "0>1,0>2", "0>10", "10>1"):
            with self.subTest(match):
                self.assertIsNone(league_in("plain 3 " + match))
                refused_with(self, NoText, read_league, "plain 3 " + match)
        for match in ("1=0", "0=0", "0=3", "0=1 0=1", "0=1 0>1", "1=2 0=1", "0==1", "0=", "=1", "=", "0=1="):
            with self.subTest(match):
                self.assertIsNone(league_in("ties 3 " + match))
                refused_with(self, NoText, read_league, "ties 3 " + match)

    def test_texts_near_to_written_ones(self):
        read = {}
        for text in ("plain 2", "ties 3 0>1 1=2", "plain 4 0<3 1>2", "ties 6 0<5 4>5", "ties 2 0=1"):
            for other in texts_near(text):
                league = league_in(other)
                if league is None:
                    refused_with(self, NoText, read_league, other)
                else:
                    self.assertEqual(read_league(other), league, other)
                    self.assertEqual(show_league(league), other)
                    read[other] = True
        self.assertGreater(len(read), 40)

    def test_every_match_of_two_figures(self):
        for kind, n, i, sign, j in product(("plain", "ties"), (2, 4, 6), range(8), "<=>", range(8)):
            text = f"{kind} {n} {i}{sign}{j}"
            league = league_in(text)
            if league is None:
                refused_with(self, NoText, read_league, text)
            else:
                self.assertEqual(read_league(text), league)


class TestPoints(unittest.TestCase):
    def test_by_hand(self):
        for points, text in (([0, 0], "0 0"), ([3, 1, 2], "3 1 2"), ([10, 8, 6, 4, 2, 0], "10 8 6 4 2 0"),
                             ([-1, 100, -25], "-1 100 -25"), ([7, 7, 7, 7], "7 7 7 7"), ([1, 20, 300, 4000, 50000],
                                                                                        "1 20 300 4000 50000")):
            self.assertEqual(show_points(points), text)
            self.assertEqual(read_points(text), points)

    def test_there_and_back(self):
        for n in range(2, 7):
            for points in points_far(n) + [[at * by for at in range(n)] for by in (1, -1, 7, -10, 10 ** 20)]:
                text = show_points(points)
                self.assertIs(type(text), str)
                self.assertTrue(POINTS.fullmatch(text))
                self.assertEqual(read_points(text), points)
                self.assertEqual([type(one) for one in read_points(text)], [int] * n)
        for league in some_leagues():
            points = brought(league)
            self.assertEqual(read_points(show_points(points)), points)

    def test_many_figures(self):
        figures = "12345678901234567890123456"
        self.assertEqual(show_points([int(figures), -int(figures)]), f"{figures} -{figures}")
        self.assertEqual(read_points(f"{figures} -{figures}"), [int(figures), -int(figures)])
        # Six numbers of twenty-six figures fill a text of less than 180 signs; two fill it with more figures each.
        six = " ".join(["-" + figures] * 6)
        self.assertEqual(read_points(six), [-int(figures)] * 6)
        self.assertEqual(show_points(read_points(six)), six)
        for long in ("9" * 88, "1" + "0" * 88):
            text = f"{long} -{long}"
            self.assertEqual(read_points(text), [int(long), -int(long)])
            self.assertEqual(show_points(read_points(text)), text)

    def test_no_points_are_written(self):
        others = [[], [1], [1] * 7, [1] * 20, (1, 2), "1 2", "12", b"12", {1: 1, 2: 2}, {1, 2}, range(2), iter([1, 2]),
                  ((1, 2),), [[1, 2]], [[1], [2]], [(1, 2), (3, 4)], AngryList([1, 2]), Agreeing(list)]
        for one in (True, False, None, "1", "", b"1", [1], (1,), {}, Own(), Angry(), Agreeing(int), int):
            others += [[one, 1], [1, one], [one, one, one], [1, 1, 1, 1, 1, one]]
        for thing in [thing for thing in anything() if not are_points(thing)] + others:
            with self.subTest(name_of(thing)):
                refused_with(self, NoPoints, show_points, thing)


class TestReadPoints(unittest.TestCase):
    def test_no_text(self):
        for thing in anything_but_texts() + [[1, 2], ["1", "2"], (1, 2), b"1 2", ("1 2",), Agreeing(str), 12]:
            with self.subTest(name_of(thing)):
                refused_with(self, NoText, read_points, thing)

    def test_another_number_of_them(self):
        for many in range(12):
            text = " ".join(["1"] * many)
            if 2 <= many <= 6:
                self.assertEqual(read_points(text), [1] * many)
            else:
                refused_with(self, NoText, read_points, text)
            refused_with(self, NoText, read_points, text + " ")
            refused_with(self, NoText, read_points, " " + text)

    def test_no_numbers(self):
        for number in NO_NUMBERS + ["- 1", "-00", "-007", "0-1", "00000"]:
            for text in (f"{number} 1", f"1 {number}", f"1 {number} 1", number, f"{number} {number}"):
                with self.subTest(text):
                    if POINTS.fullmatch(text):
                        self.fail("this writes points")
                    refused_with(self, NoText, read_points, text)

    def test_between_numbers_are_single_blanks(self):
        for text in ("1  2", "1\t2", "1\n2", "1, 2", "1,2", "1;2", "1 2\n", "\n1 2", "1 2\t", "[1 2]", "1 \t2", "1 \n2"):
            refused_with(self, NoText, read_points, text)

    def test_texts_near_to_written_ones(self):
        read = {}
        for text in ("0 0", "1 2 3", "-1 10 0", "12 -30 405 6 7 0"):
            for other in texts_near(text):
                if POINTS.fullmatch(other):
                    points = read_points(other)
                    self.assertEqual(points, [int(word) for word in other.split(" ")])
                    self.assertEqual(show_points(points), other)
                    read[other] = True
                else:
                    refused_with(self, NoText, read_points, other)
        self.assertGreater(len(read), 100)


class TestHandedInAndTold(unittest.TestCase):
    def test_what_is_handed_in_is_left_alone(self):
        for thing in some_leagues()[::9] + [["ties", [3]], ("ties", 3, [(1, 2, 2), (0, 1, 1)]), {0: [1]}]:
            left_alone(self, show_league, thing)
            left_alone(self, read_league, thing)
        for thing in ([1, 2], [1, True], [1], [[1], [2]], {0: [1]}):
            left_alone(self, show_points, thing)
            left_alone(self, read_points, thing)

    def test_what_is_told_is_the_askers_own(self):
        for text in ("ties 3 0>1 1=2", "plain 2"):
            league, again = read_league(text), read_league(text)
            kept = list(league[2])
            self.assertIsNot(league[2], again[2])
            league[2].append("x")
            again[2].clear()
            self.assertEqual(read_league(text)[2], kept)
        points, again = read_points("1 2 3"), read_points("1 2 3")
        self.assertIsNot(points, again)
        points[0] = None
        again.clear()
        self.assertEqual(read_points("1 2 3"), [1, 2, 3])

    def test_nothing_is_kept_of_what_was_handed_in(self):
        played = [(0, 1, 0)]
        self.assertEqual(show_league(("ties", 3, played)), "ties 3 0>1")
        played.append((1, 2, None))
        self.assertEqual(show_league(("ties", 3, played)), "ties 3 0>1 1=2")
        points = [1, 2]
        self.assertEqual(show_points(points), "1 2")
        points[0] = -1
        self.assertEqual(show_points(points), "-1 2")


if __name__ == "__main__":
    unittest.main()
