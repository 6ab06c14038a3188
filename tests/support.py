"""What several tests need: things of whatever kind, and the definitions of [2] gone through one by one."""

from itertools import combinations

GREAT = 10 ** 29 + 7

CURVES = [(many, deep) for deep in range(1, 7) for many in range(deep + 1, 10)]


def nested(kind, inner, times):
    thing = inner
    for level in range(times):
        thing = kind(thing)
    return thing


# None of these is a curve, a lot or a text that can be read, whatever the curve.
ODD_THINGS = [
    None, True, False, 0, 1, 3, -1, GREAT, -GREAT,
    "", " ", "6", "6 3", "012", "(6, 3)", "()", "abc", "x" * 200,
    [], [0], [6, 3], [0, 1, 2], [[]], [()], [None],
    {}, {0: 1}, {6: 3}, {"6": [3]}, {(6, 3): None},
    (None,), (True,), (False,), ("0",), ([],), ((),), ({},), ([0],), ((0,),),
    (0, True), (False, 1), (True, 2), (0, None), (0, "1"), ("0", 1), ("6", "3"), ([6], 3), ((6,), 3), ((6, 3),),
    (0, (1, 2)), ((0, 1), 2), (0, [1], 2), (0, {1: 2}), ({0: 1}, 2),
    (0, 0), (1, 1), (0, 1, 1), (1, 0), (2, 1, 0), (0, 2, 1),
    (-1,), (-1, 0), (-GREAT, 0), (9,), (0, 9), (GREAT,), (0, GREAT), (-GREAT, GREAT), (GREAT, 3), (6, GREAT),
    nested(lambda inner: (inner,), 0, 7), nested(lambda inner: [inner], 0, 7), nested(lambda inner: {0: inner}, 0, 7),
]

NO_CURVES = ODD_THINGS + [
    (), (6,), (6, 3, 0), (6, 3, 3), (6, 0), (6, -1), (6, 7), (6, 6), (3, 6), (1, 1), (0, 0), (1, 0), (10, 3), (10, 6),
    (8, 7), (9, 7), (7, 7), (0, 3), (-6, 3), (-6, -3), (2, True), (True, 1), (6, True), (6, None), (None, 3), (6, "3"),
    (6, [3]), (6, (3,)), ("6", 3), [9, 6], [2, 1],
]


def all_lots(curve):
    """Every lot of the curve, rising as tuples are ordered."""
    corners = range(curve[0])
    return sorted(lot for size in range(curve[0] + 1) for lot in combinations(corners, size))


def between(lot, low, high):
    return len([corner for corner in lot if low < corner < high])


def plain_panes(curve):
    """The panes by the very words of [2], without blocks."""
    many, deep = curve
    found = []
    for lot in combinations(range(many), deep):
        out = [corner for corner in range(many) if corner not in lot]
        if all(between(lot, low, high) % 2 == 0 for low, high in combinations(out, 2)):
            found.append(lot)
    return found


def plain_faces(curve):
    """The faces by the very words of [2]: all that panes have within them, as a set."""
    return {lot for pane in plain_panes(curve) for size in range(curve[1] + 1) for lot in combinations(pane, size)}


def assert_refused(case, error, function, *arguments):
    """The very class is raised, not one above or below it."""
    with case.subTest(function=function.__name__, arguments=arguments):
        try:
            told = function(*arguments)
        except Exception as raised:
            case.assertIs(type(raised), error, repr(raised))
        else:
            case.fail(f"told {told!r} where {error.__name__} is due")


def assert_told(case, expected, told):
    """Alike in value and in kind, all the way in: 1 is not True, a list is not a tuple."""
    case.assertEqual(repr(expected), repr(told))
