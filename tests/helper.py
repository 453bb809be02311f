"""What several tests need: things of any kind, and a plain going through of all ends."""

import copy
import sys
from itertools import combinations, product

from wintold import errors

NAMED = [
    errors.NoLeague, errors.NoPoints, errors.NoNumber, errors.NoEnd, errors.NoMatch, errors.NoOutcome,
    errors.NoPlayer, errors.TooMany, errors.NoText, errors.NoName, errors.NoRow,
]
WORTHS = {"plain": 1, "ties": 2}
# The signs of texts of which something is promised.
SIGNS = [sign for sign in map(chr, range(ord(" "), ord("~") + 1)) if sign != "%"] + ["\t", "\n"]


class Own:
    """An object without any ways of its own."""


class Angry:
    """An object that answers whatever it is asked with an error."""

    def fail(self, *rest):
        raise RuntimeError("asked")

    __eq__ = __ne__ = __lt__ = __le__ = __gt__ = __ge__ = __hash__ = fail
    __len__ = __iter__ = __getitem__ = __contains__ = __bool__ = fail
    __int__ = __index__ = __str__ = __repr__ = __getattr__ = fail


class AngryList(list):
    """An own object below a list, that answers with an error."""

    __eq__ = __ne__ = __len__ = __iter__ = __getitem__ = __bool__ = __repr__ = Angry.fail


class AngryTuple(tuple):
    """An own object below a tuple, that answers with an error."""

    __eq__ = __ne__ = __len__ = __iter__ = __getitem__ = __bool__ = __repr__ = Angry.fail


class AngryText(str):
    """An own object below a text, that answers with an error."""

    __eq__ = __ne__ = __len__ = __iter__ = __getitem__ = __contains__ = __bool__ = __repr__ = __str__ = Angry.fail
    split = partition = startswith = removeprefix = __hash__ = Angry.fail


class Agreeing:
    """An object that says that it is all that it is asked for."""

    def __init__(self, claimed):
        self.claimed = claimed

    @property
    def __class__(self):
        return self.claimed

    def __eq__(self, other):
        return True

    __le__ = __lt__ = __ge__ = __gt__ = __eq__

    def __hash__(self):
        return 0

    def __len__(self):
        return 3


def anything():
    """Things of any kind, of which none is a league, points, an end, or a set of players."""
    return [
        None, True, False, 0, 1, 3, -1, 10 ** 25, "", "plain", "ties", "plain 3", b"", b"plain", bytearray(b"x"),
        [], [None], [[]], [()], [True], ["0"], [b"0"], [{}], [Own()], [Angry()], [0, None], [-1], [6], [0, 0], [1, 0],
        (), (0,), (None, None, None), ("plain", 3), ("plain", None, None), ([], [], []), (b"plain", 3, []),
        {}, {0: 1}, {"plain": 3}, set(), {0}, frozenset(), range(3), range(0), iter([]), object(), int, list, Own,
        Own(), Angry(), AngryList([0]), AngryTuple(("plain", 3, [])), Agreeing(list), Agreeing(tuple), Agreeing(int),
        Agreeing(str), len, lambda: None, Ellipsis, NotImplemented, ValueError("plain"), ("plain", 3, [(0, 1, 0, 0)]),
        [[[[[]]]]],
    ]


def anything_but_points(n):
    """Things of any kind of which none is points for n players."""
    return anything() + [[0] * (n + 1), [0] * (n - 1), (0,) * n, [None] * n, [[0]] * n, {0: 0}]


def anything_but_texts():
    """Things of any kind of which none is a text."""
    return [thing for thing in anything() if type(thing) is not str] + [AngryText("plain 3"), AngryText("show a")]


def anything_but_numbers():
    """Things of any kind of which none is a whole number."""
    return [thing for thing in anything() if type(thing) is not int]


def name_of(thing):
    """A name for a message; an own object may not be asked for one."""
    if isinstance(thing, (Own, Agreeing)) or type(thing) is Angry:
        return type(thing).__name__
    try:
        return repr(thing)
    except RuntimeError:
        return type(thing).__name__ + " with an angry one"


def matches_of(n):
    return list(combinations(range(n), 2))


def all_outcomes(kind, i, j):
    return [i, None, j] if kind == "ties" else [i, j]


def leagues_of(kind, n):
    """All leagues of the kind and number of players: each match not played, or with each outcome."""
    ways = [[()] + [((i, j, w),) for w in all_outcomes(kind, i, j)] for i, j in matches_of(n)]
    return [(kind, n, [match for part in parts for match in part]) for parts in product(*ways)]


def all_played(kind, n, turn):
    """Every match played, the outcomes one after the other in turn."""
    played = []
    for at, (i, j) in enumerate(matches_of(n)):
        ways = all_outcomes(kind, i, j)
        played.append((i, j, ways[(at + turn) % len(ways)]))
    return (kind, n, played)


def some_leagues():
    """Leagues of both kinds and of 2 to 6 players with no, some and all matches played."""
    found = []
    for kind in ("plain", "ties"):
        for n in range(2, 7):
            found.append((kind, n, []))
            for turn in range(3):
                whole = all_played(kind, n, turn)
                found += [whole, (kind, n, whole[2][:1]), (kind, n, whole[2][1:]), (kind, n, whole[2][::2])]
    return found


def ends_of(league):
    """All ends of the league, by going through every outcome of every match left."""
    kind, n, played = league
    known = {(i, j): w for i, j, w in played}
    ways = []
    for i, j in matches_of(n):
        outcomes = [known[(i, j)]] if (i, j) in known else all_outcomes(kind, i, j)
        ways.append([(i, j, w) for w in outcomes])
    return [(kind, n, list(end)) for end in product(*ways)]


def brought(league):
    """The points of each player, one match after the other."""
    kind, n, played = league
    points = [0] * n
    for i, j, w in played:
        for player in (i, j):
            if w is None:
                points[player] += 1
            elif w == player:
                points[player] += WORTHS[kind]
    return points


def ends_by_points(league):
    """All ends of the league, in order, by the points that they bring."""
    found = {}
    for end in ends_of(league):
        found.setdefault(tuple(brought(end)), []).append(end)
    return found


def points_near(points):
    """Points beside some: one or two more or fewer for a player, also moved to the next one."""
    found = []
    for at in range(len(points)):
        for by in (-2, -1, 1, 2):
            other = list(points)
            other[at] += by
            found.append(list(other))
            other[at - 1] -= by
            found.append(other)
    return found


def points_far(n):
    """Points that no end brings: below 0, very large, of another sum."""
    far = 10 ** 25
    return [[-1] * n, [0] * n, [far] * n, [-far] * n, [far, -far] + [0] * (n - 2), [11] * n, [-1] + [5] * (n - 1)]


def points_to_ask(league, table, step=1):
    """Points that ends bring, every step-th of them, with such near to the first of these, and far ones."""
    brought_ones = [list(points) for points in sorted(table)[::step]]
    return brought_ones + points_near(brought_ones[0]) + points_near(brought_ones[-1]) + points_far(league[1])


def with_match(league, match):
    """The league with one more match played."""
    kind, n, played = league
    return (kind, n, sorted(played + [match], key=lambda one: one[:2]))


def renamed(league, names):
    """The league with its players called otherwise: names[player] is what the player is called."""
    played = []
    for i, j, w in league[2]:
        low, high = sorted((names[i], names[j]))
        played.append((low, high, None if w is None else names[w]))
    return (league[0], league[1], sorted(played, key=lambda match: match[:2]))


def points_renamed(points, names):
    """The points as they are told when the players are called otherwise."""
    return [points[names.index(player)] for player in range(len(points))]


def rising_lists(n):
    """All sets of players, shorter ones first, then as lists are."""
    return [list(players) for size in range(1, n + 1) for players in combinations(range(n), size)]


def refused_with(test, error, call, *given):
    """The call is refused with just this error, and nothing that it was given is changed."""
    with test.assertRaises(ValueError) as caught:
        call(*given)
    test.assertIs(type(caught.exception), error)
    test.assertIsInstance(caught.exception, errors.WinError)
    for other in NAMED:
        if other is not error:
            test.assertNotIsInstance(caught.exception, other)


def calls_made(call, *given):
    """How many functions of the program a call runs, itself among them."""
    counted = []

    def note(frame, event, more):
        if event == "call" and "wintold" in frame.f_globals.get("__name__", ""):
            counted.append(1)

    before = sys.getprofile()
    sys.setprofile(note)
    try:
        call(*given)
    finally:
        sys.setprofile(before)
    return len(counted)


def texts_near(text):
    """Texts that are one step beside a text: with a sign less, a sign more, another sign, or two changed about."""
    found = {text.upper(), text.lower(), text + text, " " + text, text + " "}
    for at in range(len(text) + 1):
        ahead, behind = text[:at], text[at:]
        found |= {ahead, behind, ahead + behind[1:], ahead + behind[1:2] + behind[:1] + behind[2:]}
        for sign in SIGNS:
            found |= {ahead + sign + behind, ahead + sign + behind[1:]}
    return sorted(found)


def left_alone(test, call, *given):
    """The call, refused or not, changes nothing that it is given; the given things are plain ones."""
    before = copy.deepcopy(given)
    shown = repr(given)
    try:
        call(*given)
    except errors.WinError:
        pass
    test.assertEqual(given, before)
    test.assertEqual(repr(given), shown)
