"""What several test files need: wrong values, and the check of a function's errors."""

from itertools import combinations, permutations

from forgetwork.archives import Archive
from forgetwork.errors import (BadArchive, BadBound, BadBuild, BadDelay, BadKeeper, BadLog, BadPosition, BadRoom,
                               BadSplit, BadText, BadTicks, BadWish, TooLarge)


class Same:
    """An object that says that it equals everything."""

    def __eq__(self, other):
        return True


# Values that are no integer and no tuple with an item, so that they are wrong nearly everywhere.
OTHER_KINDS = [None, True, False, "", "1", "high", b"", b"\x01", [], [1], {}, {0: 1}, set(), frozenset([0]), object(),
               len, int, Archive, Archive((1, 1)), ValueError(), Same()]

WRONG_ARCHIVES = [value for value in OTHER_KINDS if not isinstance(value, Archive)] + [0, 1, (), (2, 1, 3), ((2, 1),)]
WRONG_ROOMS = OTHER_KINDS + [-1, 4, 5, -10 ** 30, 10 ** 30, (), (1,)]
WRONG_DELAYS = OTHER_KINDS + [-1, 3, 4, -10 ** 30, 10 ** 30, (), (1,)]

WRONG_TICKS = OTHER_KINDS + [-1, 5, 6, -10 ** 30, 10 ** 30, (), (1,)]
WRONG_BOUNDS = OTHER_KINDS + [-1, 21, 22, -10 ** 30, 10 ** 30, (), (1,)]

# Wrong builds for three people and a room of 1.
WRONG_BUILDS = OTHER_KINDS + [
    0, (), ((0, 1, 2),), ((0, 1, 2), (1,), ()), [(0, 1, 2), (1,)], ([0, 1, 2], (1,)), ((0, 1, 2), [1]),
    ((0, 1, 2), None), (None, ()), ((0, 1, 2), 1), (0, ()), ((0, True, 2), (1,)), ((False, 1, 2), ()),
    ((0, 1, 2), (True,)), ((0, 1, "2"), ()), ((0, 1, None), ()), ((0, 1, [2]), ()), ((0, 1, (2,)), ()),
    ((0, 1, 3), ()), ((-1, 1, 2), ()), ((0, 1, 10 ** 30), ()), ((0, 1, 1), ()), ((0, 1, 2, 0), ()),
    ((0, 1, 2), (0,)), ((0, 1, 2), (3,)), ((0, 1, 2), (-1,)), ((0, 1, 2), ("1",)), ((0, 1, 2), (None,)),
    ((0, 1, 2), ((1,),)), ((0, 1, 2), (1, 2)), ((0, 1, 2), (1, 1)), ((0, 1), (2,)), ((0,), (1,)), ((), (1,)),
    ((), (0,)), (("0", "1"), ()), ("012", ()), ((0, 1, 2), "1")]

# Wrong positions for three people, a room of 1 and a delay of 2.
LINE = (0, 1, 2)
_FORMS = OTHER_KINDS + [
    0, (), (LINE, (1,)), (LINE, (1,), ()), (LINE, (1,), (), 2, 0), [LINE, (1,), (), 2], ((LINE, (1,)), (), 2)]
_PARTS = [
    ([0, 1, 2], (1,), (), 2), ((0, 1, 1), (), (), 2), ((0, 1, 3), (), (), 2), ((-1, 1), (), (), 2),
    ((0, True), (), (), 2), ((0, None), (), (), 2), (None, (), (), 2), (0, (), (), 2), ("012", (), (), 2),
    (LINE, [1], (), 2), (LINE, (0,), (), 2), (LINE, (3,), (), 2), (LINE, (1, 2), (), 2), (LINE, (True,), (), 2),
    (LINE, ("1",), (), 2), (LINE, None, (), 2), (LINE, 1, (), 2), ((0,), (1,), (), 2), ((), (1,), (), 2)]
_WAITING = [(LINE, (1,), waiting, 2) for waiting in OTHER_KINDS + [
    0, (1,), (1, 0), [(1, 0)], ([1, 0],), ((1,),), ((1, 0, 0),), ((1, 2),), ((1, -1),), ((1, True),), ((1, False),),
    ((True, 0),), ((False, 0),), ((3, 0),), ((-1, 0),), ((None, 0),), ((1, None),), (("1", 0),), ((1, "0"),), (None,),
    ((1, 0), (0, 1)), ((0, 0), (0, 1)), ((0, 0), (1, 0)), ((1, 1), (1, 1)), ((0, 1), (1, 0), (2, 1)),
    ((0, 0), (1, 1), (2, 2)), {1: 0}]] + [((0, 1), (), ((2, 0),), 2), ((), (), ((0, 0),), 2)]
_LEFT = [(LINE, (1,), (), ticks) for ticks in OTHER_KINDS + [-1, 5, 6, 10 ** 30, (), (1,)]]
WRONG_POSITIONS = _FORMS + _PARTS + _WAITING + _LEFT
WRONG_WISHES = [value for value in OTHER_KINDS if value is not None] + [
    3, -1, 10 ** 30, -10 ** 30, (), (0,), [0], ((0, 1),), "None", "0"]

# Wrong splits of three people.
WRONG_SPLITS = OTHER_KINDS + [
    0, (), ((0, 1, 2), ()), ((),), ((0, 1, 2),) * 2, ((0, 1),), ((0,), (1,)), ((1, 2),), [(0, 1, 2)], ([0, 1, 2],),
    ([0, 1], (2,)), ((0, 1), [2]), (0, 1, 2), ((0, 1), 2), ((0, 2, 1),), ((1, 0), (2,)), ((0, 2), (1,), ()),
    ((1,), (0, 2)), ((2,), (0, 1)), ((0,), (2,), (1,)), ((2,), (1,), (0,)), ((0, 1), (1, 2)), ((0, 0, 1, 2),),
    ((0, 0), (1, 2)), ((0,), (0,), (1, 2)), ((0,), (1,), (2,), (2,)), ((0, 1, 2, 3),), ((0, 1, 2), (3,)), ((-1, 0, 1, 2),),
    ((0, 1, 3),), ((-1, 0, 1),), ((False, 1, 2),), ((0, True), (2,)), ((0, True, 2),), ((False,), (1, 2)), ((0, 1, None),),
    ((0, 1, "2"),), (("0", "1", "2"),), ((0, 1), None), ((0, 1), "2"), ("012",), ((0, 1), ((2,),)), {(0, 1, 2): 1}]

WRONG_KEEPERS = [value for value in OTHER_KINDS if value != "high" or isinstance(value, Same)] + [
    0, 1, -1, 10 ** 30, (), ("low",), ["low"], ("none", "low"), b"low", "None", "LOW", "Lazy", "lo", "lows", " low",
    "low ", "high\n", "none low", "keeper", "0"]

# Wrong logs from any position of three people: a whole of a wrong form, or a wrong first item.
WRONG_LOGS = [value for value in OTHER_KINDS if value != [] or isinstance(value, Same)] + [
    0, 1, "0" * 12, {0: 1, 1: 2}, iter([]), range(0), (None,), [None], (0,), ((),), [()], [(0,)], [(0, 1, 2)], [(None, None)],
    [(0, 1)], (0, LINE), [[0, (LINE, (), (), 1)]], [(3, (LINE, (), (), 1))], [None] * 12, (None,) * 12, [None] * 13,
    (None,) * 13, [()] * 100]

WRONG_TEXTS = [value for value in OTHER_KINDS if not isinstance(value, str)] + [
    0, 1, -1, (), ("sizes 1\n",), ["sizes 1\n"], b"sizes 1\n", b"order -\nkept -\nticks 0\n"]

ARCHIVE = (BadArchive, WRONG_ARCHIVES)
ROOM = (BadRoom, WRONG_ROOMS)
DELAY = (BadDelay, WRONG_DELAYS)
TICKS = (BadTicks, WRONG_TICKS)
BUILD = (BadBuild, WRONG_BUILDS)
POSITION = (BadPosition, WRONG_POSITIONS)
BOUND = (BadBound, WRONG_BOUNDS)
SPLIT = (BadSplit, WRONG_SPLITS)
WISH = (BadWish, WRONG_WISHES)
KEEPER = (BadKeeper, WRONG_KEEPERS)
LOG = (BadLog, WRONG_LOGS)
TEXT = (BadText, WRONG_TEXTS)


def refused(case, error, function, values):
    """The call raises exactly this error."""
    with case.subTest(function=function.__name__, values=repr(values)):
        with case.assertRaises(error) as held:
            function(*values)
        case.assertIs(type(held.exception), error)


def refused_at(case, error, told, function, values):
    """The call raises exactly this error, whose index or row tells where."""
    with case.subTest(function=function.__name__, values=repr(values)):
        with case.assertRaises(error) as held:
            function(*values)
        case.assertIs(type(held.exception), error)
        name = {BadLog: "index", BadText: "row"}[error]
        found = getattr(held.exception, name)
        case.assertEqual((type(found), found), (type(told), told))


def check_errors(case, function, right, wrong):
    """Every wrong value of an argument is refused, and of two wrong arguments the first one counts."""
    function(*right)
    for first, (error, values) in enumerate(wrong):
        for value in values:
            refused(case, error, function, right[:first] + (value,) + right[first + 1:])
    for first, second in combinations(range(len(wrong)), 2):
        for value in wrong[first][1]:
            for other in wrong[second][1]:
                both = list(right)
                both[first], both[second] = value, other
                refused(case, wrong[first][0], function, tuple(both))


def check_too_large(case, function, right, wrong):
    """What is too large is refused, but every wrong value of an argument counts more."""
    refused(case, TooLarge, function, right)
    for at, (error, values) in enumerate(wrong):
        for value in values:
            refused(case, error, function, right[:at] + (value,) + right[at + 1:])


def check_new(case, call):
    """Each call returns a list of its own."""
    once, again = call(), call()
    case.assertIs(type(once), list)
    case.assertIsNot(once, again)
    kept = list(again)
    once.append("more")
    case.assertEqual(again, kept)
    case.assertEqual(call(), kept)


def subsets(items, most):
    """All ascending tuples of at most so many items, in any order."""
    return [some for count in range(most + 1) for some in combinations(sorted(items), count)]


def some_builds(count, room):
    """All builds of some of so many people."""
    found = []
    for size in range(count + 1):
        for order in permutations(range(count), size):
            found.extend([(order, kept) for kept in subsets(range(1, size), room)])
    return found


def some_waiting(order, delay):
    """All waiting wishes of people of the order."""
    found = []
    for people in subsets(order, delay):
        found.extend([tuple(zip(people, left)) for left in permutations(range(delay), len(people))])
    return found
