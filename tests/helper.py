"""What several tests need: things of any kind, and a plain going through of all ends."""

import copy
from itertools import combinations, product

from wintold import errors

NAMED = [
    errors.NoLeague, errors.NoPoints, errors.NoNumber, errors.NoEnd, errors.NoMatch, errors.NoOutcome,
    errors.NoPlayer, errors.TooMany, errors.NoText, errors.NoName, errors.NoRow,
]
WORTHS = {"plain": 1, "ties": 2}


class Own:
    """An object without any ways of its own."""


class Angry:
    """An object that answers whatever it is asked with an error."""

    def fail(self, *rest):
        raise RuntimeError("asked")

    __eq__ = __ne__ = __lt__ = __le__ = __gt__ = __ge__ = __hash__ = fail
    __len__ = __iter__ = __getitem__ = __contains__ = __bool__ = fail
    __int__ = __index__ = __str__ = __repr__ = __getattr__ = fail


class AngryList(list):
    """An own object below a list, that answers with an error."""

    __eq__ = __ne__ = __len__ = __iter__ = __getitem__ = __bool__ = __repr__ = Angry.fail


class AngryTuple(tuple):
    """An own object below a tuple, that answers with an error."""

    __eq__ = __ne__ = __len__ = __iter__ = __getitem__ = __bool__ = __repr__ = Angry.fail


class Agreeing:
    """An object that says that it is all that it is asked for."""

    def __init__(self, claimed):
        self.claimed = claimed

    @property
    def __class__(self):
        return self.claimed

    def __eq__(self, other):
        return True

    __le__ = __lt__ = __ge__ = __gt__ = __eq__

    def __hash__(self):
        return 0

    def __len__(self):
        return 3


def anything():
    """Things of any kind, of which none is a league, points, an end, or a set of players."""
    return [
        None, True, False, 0, 1, 3, -1, 10 ** 25, "", "plain", "ties", "plain 3", b"", b"plain", bytearray(b"x"),
        [], [None], [[]], [()], [True], ["0"], [b"0"], [{}], [Own()], [Angry()], [0, None], [-1], [6], [0, 0], [1, 0],
        (), (0,), (None, None, None), ("plain", 3), ("plain", None, None), ([], [], []), (b"plain", 3, []),
        {}, {0: 1}, {"plain": 3}, set(), {0}, frozenset(), range(3), range(0), iter([]), object(), int, list, Own,
        Own(), Angry(), AngryList([0]), AngryTuple(("plain", 3, [])), Agreeing(list), Agreeing(tuple), Agreeing(int),
        Agreeing(str), len, lambda: None, Ellipsis, NotImplemented, ValueError("plain"), ("plain", 3, [(0, 1, 0, 0)]),
        [[[[[]]]]],
    ]


def anything_but_points(n):
    """Things of any kind of which none is points for n players."""
    return anything() + [[0] * (n + 1), [0] * (n - 1), (0,) * n, [None] * n, [[0]] * n, {0: 0}]


def name_of(thing):
    """A name for a message; an own object may not be asked for one."""
    if isinstance(thing, (Own, Agreeing)) or type(thing) is Angry:
        return type(thing).__name__
    try:
        return repr(thing)
    except RuntimeError:
        return type(thing).__name__ + " with an angry one"


def matches_of(n):
    return list(combinations(range(n), 2))


def outcomes_of(kind, i, j):
    return [i, None, j] if kind == "ties" else [i, j]


def leagues_of(kind, n):
    """All leagues of the kind and number of players: each match not played, or with each outcome."""
    ways = [[()] + [((i, j, w),) for w in outcomes_of(kind, i, j)] for i, j in matches_of(n)]
    return [(kind, n, [match for part in parts for match in part]) for parts in product(*ways)]


def ends_of(league):
    """All ends of the league, by going through every outcome of every match left."""
    kind, n, played = league
    known = {(i, j): w for i, j, w in played}
    ways = []
    for i, j in matches_of(n):
        outcomes = [known[(i, j)]] if (i, j) in known else outcomes_of(kind, i, j)
        ways.append([(i, j, w) for w in outcomes])
    return [(kind, n, list(end)) for end in product(*ways)]


def brought(league):
    """The points of each player, one match after the other."""
    kind, n, played = league
    points = [0] * n
    for i, j, w in played:
        for player in (i, j):
            if w is None:
                points[player] += 1
            elif w == player:
                points[player] += WORTHS[kind]
    return points


def rising_lists(n):
    """All sets of players, shorter ones first, then as lists are."""
    return [list(players) for size in range(1, n + 1) for players in combinations(range(n), size)]


def refused_with(test, error, call, *given):
    """The call is refused with just this error, and nothing that it was given is changed."""
    with test.assertRaises(ValueError) as caught:
        call(*given)
    test.assertIs(type(caught.exception), error)
    test.assertIsInstance(caught.exception, errors.WinError)
    for other in NAMED:
        if other is not error:
            test.assertNotIsInstance(caught.exception, other)


def left_alone(test, call, *given):
    """The call, refused or not, changes nothing that it is given; the given things are plain ones."""
    before = copy.deepcopy(given)
    shown = repr(given)
    try:
        call(*given)
    except errors.WinError:
        pass
    test.assertEqual(given, before)
    test.assertEqual(repr(given), shown)
