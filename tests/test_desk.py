"""[13], [14]: a desk with leagues by names; and [2], [3] as far as of it."""

import re
import unittest
from itertools import permutations, product

from tests.helper import Agreeing, all_played, anything, anything_but_texts, calls_made, left_alone, name_of
from tests.helper import points_renamed, refused_with, renamed, some_leagues, texts_near
from wintold import errors
from wintold.desk import Desk
from wintold.errors import NoMatch, NoName, NoOutcome, NoPlayer, NoPoints, NoRow, NoText
from wintold.texts import show_league

NAME = "[a-z]{1,8}"
P = "(?:0|-?[1-9][0-9]{0,8})"
ROWS = re.compile("|".join([
    f"league {NAME} (?s:.*)",
    f"play {NAME} [0-9][<=>][0-9]",
    f"(?:drop|points|left|show) {NAME}",
    f"(?:can|many|sure) {NAME}(?: {P}){{2,6}}",
    f"first {NAME} (?:0|[1-9][0-9]?)",
]))
BEGUN = "ties 3 0>1 1=2"


def desk_with(**leagues):
    """A desk with these leagues, as texts, by their names."""
    desk = Desk()
    for name, text in leagues.items():
        assert desk.say("league " + name + " " + text) == "ok"
    return desk


def stands(desk):
    """All that stands at the desk."""
    return {name: desk.say("show " + name) for name in desk.names()}


class DeskCase(unittest.TestCase):
    def check(self, desk, *rows):
        """Each row, as `row -> told`, tells this."""
        for both in rows:
            row, told = both.split(" -> ")
            self.assertEqual(desk.say(row), told, row)

    def check_refused(self, desk, error, *rows):
        """Each row is refused with this error, and changes nothing."""
        before = stands(desk)
        for row in rows:
            with self.subTest(name_of(row)):
                refused_with(self, error, desk.say, row)
                self.assertEqual(stands(desk), before)


class TestRows(DeskCase):
    def test_told_from_first_to_last(self):
        self.check(
            Desk(),
            "league cup ties 3 -> ok", "show cup -> ties 3", "left cup -> 3", "points cup -> 0 0 0",
            "many cup 2 2 2 -> 3", "can cup 2 2 2 -> yes", "sure cup 2 2 2 -> none",
            "play cup 1=2 -> ok", "play cup 0>1 -> ok", "show cup -> ties 3 0>1 1=2", "left cup -> 1",
            "points cup -> 2 1 1", "can cup 3 1 2 -> yes", "many cup 3 1 2 -> 1", "sure cup 3 1 2 -> 0=2",
            "can cup 5 1 0 -> 2", "many cup 5 1 0 -> 0", "sure cup 5 1 0 -> none",
            "first cup 0 -> yes", "first cup 1 -> no", "first cup 2 -> yes",
            "play cup 0<2 -> ok", "show cup -> ties 3 0>1 0<2 1=2", "left cup -> 0", "points cup -> 2 1 3",
            "can cup 2 1 3 -> yes", "many cup 2 1 3 -> 1", "sure cup 2 1 3 -> none", "first cup 0 -> no",
            "drop cup -> ok",
        )

    def test_league(self):
        desk = Desk()
        self.check(desk, "league a plain 2 -> ok", "league b ties 6 0<5 4=5 -> ok", "league abcdefgh plain 3 0<2 -> ok",
                   "league z plain 2 0>1 -> ok")
        self.assertEqual(stands(desk), {"a": "plain 2", "abcdefgh": "plain 3 0<2", "b": "ties 6 0<5 4=5",
                                        "z": "plain 2 0>1"})

    def test_a_name_told_anew(self):
        desk = desk_with(a="plain 3 0>1", b="ties 2")
        self.check(desk, "play a 0>2 -> ok", "league a ties 4 2=3 -> ok", "show a -> ties 4 2=3", "show b -> ties 2",
                   "league a plain 2 -> ok", "show a -> plain 2", "play a 0<1 -> ok", "points a -> 0 1")
        self.assertEqual(desk.names(), ["a", "b"])

    def test_a_dropped_name(self):
        desk = desk_with(a="plain 3 0>1", b="ties 2")
        self.check(desk, "drop a -> ok")
        self.assertEqual(desk.names(), ["b"])
        self.check_refused(desk, NoName, "drop a", "show a", "left a", "points a", "play a 0>2", "can a 1 1 1",
                           "many a 1 1 1", "sure a 1 1 1", "first a 0")
        self.check(desk, "league a ties 2 -> ok", "show a -> ties 2", "drop b -> ok", "drop a -> ok")
        self.assertEqual(desk.names(), [])

    def test_play(self):
        desk = desk_with(a="plain 4 1>2", b="ties 4")
        self.check(desk, "play a 0<3 -> ok", "play a 0>1 -> ok", "play a 2<3 -> ok", "show a -> plain 4 0>1 0<3 1>2 2<3",
                   "show b -> ties 4", "play b 2=3 -> ok", "play b 0<1 -> ok", "show b -> ties 4 0<1 2=3")

    def test_points_and_left(self):
        desk = desk_with(a="plain 2", b="ties 6 0>5", c="ties 4 0=1 0=2 0=3 1<2 1<3 2=3", d="plain 5 3<4")
        self.check(desk, "points a -> 0 0", "left a -> 1", "points b -> 2 0 0 0 0 0", "left b -> 14",
                   "points c -> 3 1 4 4", "left c -> 0", "points d -> 0 0 0 0 1", "left d -> 9")

    def test_can(self):
        desk = desk_with(a="plain 4 0>1", b="plain 2", c="ties 6")
        self.check(desk, "can a 3 1 1 1 -> yes", "can a 0 2 2 2 -> 0", "can a 2 0 4 0 -> 1 3", "can a 3 1 1 2 -> 0 1 2 3",
                   "can a -1 -2 -3 -4 -> 0", "can b 1 0 -> yes", "can b 0 0 -> 0 1", "can b 0 -1 -> 1",
                   "can b 999999999 -999999999 -> 1", "can b 999999999 0 -> 0 1", "can c 10 8 6 4 2 0 -> yes",
                   "can c 10 9 6 3 2 0 -> 3 4 5", "can c 5 5 5 5 5 5 -> yes")

    def test_many(self):
        desk = desk_with(a="plain 3", c="ties 6")
        self.check(desk, "many a 1 1 1 -> 2", "many a 2 1 0 -> 1", "many a 3 0 0 -> 0", "many a -1 2 2 -> 0",
                   "many c 5 5 5 5 5 5 -> 7839", "many c 999999999 0 0 0 0 -999999999 -> 0")

    def test_sure(self):
        desk = desk_with(a="ties 3", b="plain 3 0<2")
        self.check(desk, "sure a 4 1 1 -> 0>1 0>2 1=2", "sure a 0 2 4 -> 0<1 0<2 1<2", "sure a 3 2 1 -> none",
                   "sure a 9 9 9 -> none", "sure b 0 1 2 -> 0<1 1<2", "sure b 1 1 1 -> 0>1 1>2", "sure b 2 0 1 -> none")

    def test_first(self):
        desk = desk_with(a="plain 4 0>1 0>2 0<3 1<2", b="ties 2 0=1", c="plain 6")
        self.check(desk, "first a 0 -> yes", "first a 1 -> no", "first a 2 -> yes", "first a 3 -> yes",
                   "first b 0 -> yes", "first b 1 -> yes", "first c 0 -> yes", "first c 5 -> yes")

    def test_show(self):
        for league in some_leagues():
            text = show_league(league)
            self.assertEqual(desk_with(a=text).say("show a"), text)

    def test_names(self):
        desk = Desk()
        self.assertEqual(desk.names(), [])
        for name in ("b", "ab", "zzzzzzzz", "a", "aaaaaaaa", "ba", "z", "league", "none", "aa"):
            desk.say(f"league {name} plain 2")
        self.assertEqual(desk.names(), ["a", "aa", "aaaaaaaa", "ab", "b", "ba", "league", "none", "z", "zzzzzzzz"])
        self.check(desk, "drop league -> ok", "drop a -> ok")
        self.assertEqual(desk.names(), ["aa", "aaaaaaaa", "ab", "b", "ba", "none", "z", "zzzzzzzz"])

    def test_twenty_leagues(self):
        desk = Desk()
        names = [letter + letter for letter in "tsrqponmlkjihgfedcba"]
        for at, name in enumerate(names):
            desk.say(f"league {name} ties {2 + at % 5}")
        self.assertEqual(desk.names(), names[::-1])
        for at, name in enumerate(names):
            self.check(desk, f"play {name} 0=1 -> ok")
            self.assertEqual(desk.say("show " + name), f"ties {2 + at % 5} 0=1")


class TestNoRow(DeskCase):
    def test_no_text(self):
        self.check_refused(desk_with(a=BEGUN), NoRow, *anything_but_texts(), b"show a", ["show", "a"], ("show a",),
                           Agreeing(str))

    def test_texts_of_any_kind(self):
        self.check_refused(desk_with(a=BEGUN), NoRow, *[thing for thing in anything() if type(thing) is str], " ", "\n",
                           "show", "a", "show  a", " show a", "show a ", "show\ta", "show a\n", "show,a", "Show a",
                           "SHOW a", "shows a", "sho a", "names", "names a", "back a", "count a", "say a", "end a",
                           "show a a", "show a show a", "none", "a show", "ok")

    def test_names(self):
        for name in ("", "A", "aB", "a1", "1", "a-b", "a_b", "abcdefghi", "aaaaaaaaaaaaaaaaaaaa", "a\t", "\ta", "a\n", "a.",
                     "`", "{", "a ", " a", "-"):
            self.check_refused(desk_with(a=BEGUN), NoRow, f"show {name}", f"drop {name}", f"points {name}",
                               f"left {name}", f"play {name} 0>2", f"can {name} 3 1 2", f"many {name} 3 1 2",
                               f"sure {name} 3 1 2", f"first {name} 0")
            if name != "a ":
                self.check_refused(desk_with(a=BEGUN), NoRow, f"league {name} plain 2", f"league {name} ")

    def test_league_rows(self):
        self.check_refused(desk_with(a=BEGUN), NoRow, "league", "league ", "league a", "league b", "league  ",
                           "league  a plain 2", "league\ta plain 2", "league a\tplain 2", "league a\nplain 2",
                           "league ab1 plain 2", " league a plain 2", "leaguea plain 2", "league plain")

    def test_play_rows(self):
        for match in ("", " ", "0", "01", "0>", ">1", ">", "0>1 ", " 0>1", "0>1 0>2", "0 > 1", "0> 1", "0-1", "0:1", "00>1",
                      "0>01", "0>10", "10>1", "0>>1", "0>=1", "0==1", "a>b", "0>b", "-0>1", "0>-1", "+0>1", "0>1\n",
                      "0>1x", "0\t1", "0!1", "0;1", "0?1", "None"):
            self.check_refused(desk_with(a=BEGUN), NoRow, f"play a {match}", f"play b {match}")
        self.check_refused(desk_with(a=BEGUN), NoRow, "play a", "play", "play ", "play 0>2", "play 0>2 a")

    def test_rows_of_points(self):
        for points in ("", " ", "1", "1 ", " 1", "1 2 ", " 1 2", "1  2", "1 2 3 4 5 6 7", "0 0 0 0 0 0 0 0", "01 2", "2 01",
                       "-0 1", "1 -0", "-01 1", "+1 1", "1 +1", "- 1", "1 -", "--1 1", "1.0 1", "1 x", "x 1", "1_0 1",
                       "1234567890 1", "1 1234567890", "-1234567890 1", "1000000000 1", "1 2\n", "1\t2", "1,2", "1, 2",
                       "00 0", "0 00", "1 1e3", "0>1 0>2", "1 2 3 4 5 6 ", "1 2 3 4 5 06"):
            for word in ("can", "many", "sure"):
                self.check_refused(desk_with(a=BEGUN), NoRow, f"{word} a {points}", f"{word} b {points}")
        for word in ("can", "many", "sure"):
            self.check_refused(desk_with(a=BEGUN), NoRow, word, f"{word} ", f"{word} a", f"{word} 3 1 2")

    def test_first_rows(self):
        for player in ("", " ", "00", "01", "-1", "-0", "+1", "100", "000", "1 ", " 1", "0 1", "x", "0x", "1.", "1.0", "0\n",
                       "\t0", "1_0", "-", "999", "None", "0>1"):
            self.check_refused(desk_with(a=BEGUN), NoRow, f"first a {player}", f"first b {player}")
        self.check_refused(desk_with(a=BEGUN), NoRow, "first", "first ", "first a", "first 0")

    def test_rows_that_end_with_the_name(self):
        for word in ("drop", "points", "left", "show"):
            self.check_refused(desk_with(a=BEGUN), NoRow, word, word + " ", f"{word} a ", f"{word} a a", f"{word} a 0",
                               f"{word} a 3 1 2", f"{word}  a", f"{word}a", f"{word} a\n")

    def test_rows_near_to_rows(self):
        rows = ["league a plain 2", "league b ", "play a 0>2", "play a 0=1", "drop a", "points a", "left a", "show a",
                "can a 3 1 2", "many a 3 -1 20", "sure a 3 1 2", "first a 0", "first a 12", "can b 3 1"]
        kinds = {True: 0, False: 0}
        for row in rows:
            for other in texts_near(row):
                desk = desk_with(a=BEGUN)
                refusal = None
                try:
                    told = desk.say(other)
                except errors.WinError as error:
                    refusal = type(error)
                is_row = ROWS.fullmatch(other) is not None
                kinds[is_row] += 1
                self.assertIs(refusal is not NoRow, is_row, other)
                if refusal is None:
                    self.assertIs(type(told), str)
                elif is_row and other.split(" ")[0] != "league":
                    self.assertIs(refusal is NoName, other.split(" ")[1] != "a", other)
                if refusal is not None:
                    self.assertEqual(stands(desk), {"a": BEGUN})
        self.assertGreater(kinds[True], 300)
        self.assertGreater(kinds[False], 1000)


class TestOrderOfRefusals(DeskCase):
    def test_no_name(self):
        self.check_refused(desk_with(a=BEGUN, ab=BEGUN), NoName, "play b 0>2", "drop b", "points b", "left b", "show b",
                           "can b 3 1 2", "many b 3 1 2", "sure b 3 1 2", "first b 0", "show aa", "show abc")
        self.check_refused(Desk(), NoName, "show a", "drop a", "first a 0", "can a 1 1")

    def test_no_name_ahead_of_what_the_stages_refuse(self):
        self.check_refused(desk_with(a=BEGUN), NoName, "play b 0>1", "play b 1>0", "play b 9=9", "first b 99",
                           "can b 1 2", "many b 1 2 3 4 5 6", "sure b -1 -1")

    def test_no_text(self):
        for text in ("", " ", "plain", "plain ", " plain 2", "plain 2 ", "plain  2", "plain 1", "plain 7", "plain 02",
                     "ties 3 1>0", "ties 3 0>3", "plain 3 0=1", "ties 3 1=2 0>1", "ties 3 0>1 0>1", "Plain 2", "2",
                     "plain 2\n", "\tplain 2", "plain 3 0>1\n0>2", "league a plain 2", "plain 3 0>1  1>2", "x" * 100):
            for name in ("a", "b", "abcdefgh"):
                self.check_refused(desk_with(a=BEGUN), NoText, f"league {name} {text}")
        self.check_refused(Desk(), NoText, "league a ", "league a x")

    def test_no_match(self):
        self.check_refused(desk_with(a=BEGUN, b="plain 3 0>1"), NoMatch, "play a 0>1", "play a 0=1", "play a 1=2",
                           "play a 2>0", "play a 0>0", "play a 0=0", "play a 0>3", "play a 3>4", "play a 9<9",
                           "play a 0<9", "play a 2=0", "play b 0=1", "play b 0=3", "play b 2=0", "play b 1=1")
        self.check_refused(desk_with(a="ties 2 0=1"), NoMatch, "play a 0=1", "play a 0>1")

    def test_no_outcome(self):
        self.check_refused(desk_with(b="plain 3 0>1", c="plain 2"), NoOutcome, "play b 0=2", "play b 1=2", "play c 0=1")

    def test_no_points(self):
        desk = desk_with(a=BEGUN, b="plain 2", c="ties 6", d="ties 2 0=1")
        for name, n in (("a", 3), ("b", 2), ("c", 6), ("d", 2)):
            for many in range(2, 7):
                points = " ".join(["1"] * many)
                for word in ("can", "many", "sure"):
                    row = f"{word} {name} {points}"
                    if many == n:
                        self.assertIs(type(desk.say(row)), str)
                    else:
                        self.check_refused(desk, NoPoints, row)

    def test_no_player(self):
        desk = desk_with(a=BEGUN, b="plain 2", c="ties 6")
        self.check_refused(desk, NoPlayer, "first a 3", "first a 9", "first a 10", "first a 99", "first b 2",
                           "first c 6", "first c 10")
        self.check(desk, "first a 2 -> yes", "first b 1 -> yes", "first c 5 -> yes")

    def test_deeds_behind_refused_ones(self):
        desk = desk_with(a=BEGUN)
        for error, row in ((NoText, "league a x"), (NoMatch, "play a 0>1"), (NoRow, "drop a "), (NoName, "drop b"),
                           (NoRow, "league a"), (NoPoints, "can a 1 1"), (NoText, "league b ")):
            self.check_refused(desk, error, row)
        self.check(desk, "play a 0=2 -> ok", "show a -> ties 3 0>1 0=2 1=2")
        self.assertEqual(desk.names(), ["a"])


class TestThePromise(DeskCase):
    def test_players_called_otherwise(self):
        league = ("plain", 4, [(0, 2, 2), (1, 3, 1)])
        for points in ([2, 2, 1, 1], [1, 1, 3, 1], [3, 1, 1, 1], [2, 0, 3, 1], [2, 1, 2, 2]):
            desk = desk_with(a=show_league(league))
            told = {word: desk.say(f"{word} a " + " ".join(map(str, points))) for word in ("can", "many", "sure")}
            for names in permutations(range(4)):
                other = desk_with(a=show_league(renamed(league, names)))
                named = " ".join(map(str, points_renamed(points, names)))
                self.assertEqual(other.say("many a " + named), told["many"])
                self.assertIs(other.say("can a " + named) == "yes", told["can"] == "yes")
                self.assertEqual(len(other.say("sure a " + named)), len(told["sure"]))
                self.assertEqual(other.say("left a"), "4")
                for player in range(4):
                    self.assertEqual(other.say(f"first a {names[player]}"), desk.say(f"first a {player}"))
                    self.assertEqual(other.say("points a").split(" ")[names[player]],
                                     desk.say("points a").split(" ")[player])

    def test_nothing_is_reckoned_anew_for_each_end(self):
        desk = desk_with(a="ties 6")
        for row in ("many a 5 5 5 5 5 5", "sure a 5 5 5 5 5 5", "can a 5 5 5 5 5 5", "first a 5"):
            self.assertLess(calls_made(desk.say, row), 100000)


class TestHandedInAndTold(DeskCase):
    def test_names_are_the_askers_own(self):
        desk = Desk()
        desk.names().append("x")
        self.assertEqual(desk.names(), [])
        desk.say("league b plain 2")
        desk.say("league a plain 2")
        told = desk.names()
        self.assertIs(type(told), list)
        self.assertIsNot(desk.names(), told)
        told.remove("a")
        told[0] = "x"
        self.assertEqual(desk.names(), ["a", "b"])
        self.assertEqual(stands(desk), {"a": "plain 2", "b": "plain 2"})

    def test_what_is_handed_in_is_left_alone(self):
        for row in ("show a", "league a plain 2", "drop a", ["show", "a"], {"show": ["a"]}, [["x"]]):
            left_alone(self, Desk().say, row)

    def test_leagues_by_two_names_are_each_their_own(self):
        desk = desk_with(a="plain 3", b="plain 3")
        self.check(desk, "play a 0>1 -> ok", "show a -> plain 3 0>1", "show b -> plain 3", "play b 1<2 -> ok",
                   "show a -> plain 3 0>1", "show b -> plain 3 1<2")

    def test_two_desks_are_each_their_own(self):
        one, other = Desk(), Desk()
        one.say("league a plain 2")
        self.assertEqual(other.names(), [])
        other.say("league a ties 3")
        other.say("play a 0=1")
        self.check(one, "show a -> plain 2", "drop a -> ok")
        self.check(other, "show a -> ties 3 0=1")
        self.assertEqual(Desk().names(), [])

    def test_asked_twice(self):
        desk = desk_with(a=BEGUN, b=show_league(all_played("plain", 5, 2)))
        for name, rest in product("ab", ("show", "left", "points")):
            self.assertEqual(desk.say(f"{rest} {name}"), desk.say(f"{rest} {name}"))
        for row in ("can a 3 1 2", "many a 3 1 2", "sure a 3 1 2", "first a 1", "can b 1 1 1 1 1"):
            self.assertEqual(desk.say(row), desk.say(row))


if __name__ == "__main__":
    unittest.main()
