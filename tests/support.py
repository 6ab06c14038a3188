"""What several tests need: things of whatever kind, and the definitions of [2] gone through one by one."""

from itertools import combinations

GREAT = 10 ** 29 + 7

CURVES = [(many, deep) for deep in range(1, 7) for many in range(deep + 1, 10)]

# Those of [61], and those that are curves but too great for it.
SMALL_CURVES = [(many, deep) for many, deep in CURVES if many <= 7 and deep <= 4]
GREAT_CURVES = [curve for curve in CURVES if curve not in SMALL_CURVES]

# Great numbers of corners, up to the bound of [23].
MANIES = [10, 11, 12, 50, 1000, 10 ** 6 + 1, 999999937, 10 ** 9 - 1, 10 ** 9]

NO_NUMBERS = [None, True, False, "", "6", "3", [], [6], (), (6,), (6, 3), {}, {6: 3}]


def nested(kind, inner, times):
    thing = inner
    for level in range(times):
        thing = kind(thing)
    return thing


# None of these is a curve, a lot or a text that can be read, whatever the curve.
ODD_THINGS = [
    None, True, False, 0, 1, 3, -1, GREAT, -GREAT,
    "", " ", "6", "6 3", "012", "(6, 3)", "()", "abc", "x" * 200,
    [], [0], [6, 3], [0, 1, 2], [[]], [()], [None],
    {}, {0: 1}, {6: 3}, {"6": [3]}, {(6, 3): None},
    (None,), (True,), (False,), ("0",), ([],), ((),), ({},), ([0],), ((0,),),
    (0, True), (False, 1), (True, 2), (0, None), (0, "1"), ("0", 1), ("6", "3"), ([6], 3), ((6,), 3), ((6, 3),),
    (0, (1, 2)), ((0, 1), 2), (0, [1], 2), (0, {1: 2}), ({0: 1}, 2),
    (0, 0), (1, 1), (0, 1, 1), (1, 0), (2, 1, 0), (0, 2, 1),
    (-1,), (-1, 0), (-GREAT, 0), (9,), (0, 9), (GREAT,), (0, GREAT), (-GREAT, GREAT), (GREAT, 3), (6, GREAT),
    nested(lambda inner: (inner,), 0, 7), nested(lambda inner: [inner], 0, 7), nested(lambda inner: {0: inner}, 0, 7),
]

NO_CURVES = ODD_THINGS + [
    (), (6,), (6, 3, 0), (6, 3, 3), (6, 0), (6, -1), (6, 7), (6, 6), (3, 6), (1, 1), (0, 0), (1, 0), (10, 3), (10, 6),
    (8, 7), (9, 7), (7, 7), (0, 3), (-6, 3), (-6, -3), (2, True), (True, 1), (6, True), (6, None), (None, 3), (6, "3"),
    (6, [3]), (6, (3,)), ("6", 3), [9, 6], [2, 1],
]


def all_lots(curve):
    """Every lot of the curve, rising as tuples are ordered."""
    corners = range(curve[0])
    return sorted(lot for size in range(curve[0] + 1) for lot in combinations(corners, size))


def between(lot, low, high):
    return len([corner for corner in lot if low < corner < high])


def plain_panes(curve):
    """The panes by the very words of [2], without blocks."""
    many, deep = curve
    found = []
    for lot in combinations(range(many), deep):
        out = [corner for corner in range(many) if corner not in lot]
        if all(between(lot, low, high) % 2 == 0 for low, high in combinations(out, 2)):
            found.append(lot)
    return found


def plain_faces(curve):
    """The faces by the very words of [2]: all that panes have within them, as a set."""
    return {lot for pane in plain_panes(curve) for size in range(curve[1] + 1) for lot in combinations(pane, size)}


def plain_cross(one, other, deep):
    """Whether two cells cross by the very words of [61]."""
    for row in combinations(sorted(set(one + other)), deep + 2):
        for first, second in [(one, other), (other, one)]:
            if set(row[::2]) <= set(first) and set(row[1::2]) <= set(second):
                return True
    return False


def plain_is_covering(cells, curve, panes):
    """Whether cells that do not cross are a cover by the very words of [62]."""
    had = [lot for cell in cells for lot in combinations(cell, curve[1])]
    return bool(cells) and all(had.count(lot) == (1 if lot in panes else 2) for lot in had)


def plain_covers(curve):
    """All covers, found among all sets of cells no two of which cross: a rising list."""
    many, deep = curve
    panes = set(plain_panes(curve))
    found = []
    left = [((), list(combinations(range(many), deep + 1)))]
    while left:
        chosen, others = left.pop()
        if plain_is_covering(chosen, curve, panes):
            found.append(chosen)
        for at, cell in enumerate(others):
            fitting = [other for other in others[at + 1:] if not plain_cross(cell, other, deep)]
            left.append((chosen + (cell,), fitting))
    return sorted(found)


COVERS = {curve: plain_covers(curve) for curve in SMALL_CURVES}


def knots_of(curve):
    """The knots of the curve by the words of [71]: all lots of deep and 2 corners."""
    return list(combinations(range(curve[0]), curve[1] + 2))


def plain_halves(knot):
    """The low cells and the high ones by the very words of [71], each the last, third last, .. or another left out."""
    low = []
    high = []
    for from_the_end in range(1, len(knot) + 1):
        left = tuple(corner for corner in knot if corner != knot[-from_the_end])
        (low if from_the_end in (1, 3, 5, 7) else high).append(left)
    return tuple(sorted(low)), tuple(sorted(high))


def plain_turned(cover, going, coming):
    """The cover turned by the very words of [72], None where it can't be."""
    if not set(going) <= set(cover):
        return None
    return tuple(sorted(set(cover) - set(going) | set(coming)))


def otherwise(things, at, thing):
    """The tuple with one thing otherwise at this place."""
    return things[:at] + (thing,) + things[at + 1:]


def lots_with_one_thing_otherwise(lot, many):
    """What is no lot of so many corners, as one thing of the lot is of another kind, no corner, or out of order."""
    for at, corner in enumerate(lot):
        for thing in [str(corner), (corner,), [corner], {corner: corner}, None, True, False, "", -1, many, GREAT,
                      -GREAT]:
            yield otherwise(lot, at, thing)
        for other in lot[:at] + lot[at + 1:]:
            yield otherwise(lot, at, other)


def assert_refused(case, error, function, *arguments):
    """The very class is raised, not one above or below it."""
    with case.subTest(function=function.__name__, arguments=arguments):
        try:
            told = function(*arguments)
        except Exception as raised:
            case.assertIs(type(raised), error, repr(raised))
        else:
            case.fail(f"told {told!r} where {error.__name__} is due")


def assert_many_deep_refused(case, error, function):
    """Many and deep beyond their bounds, and what are no whole numbers, are refused; the bounds are not."""
    for deep in range(1, 7):
        function(deep + 1, deep)
        function(10 ** 9, deep)
        for many in [deep, deep - 1, 0, -1, -deep - 1, 10 ** 9 + 1, GREAT, -GREAT]:
            assert_refused(case, error, function, many, deep)
    for deep in [0, -1, 7, 8, GREAT, -GREAT]:
        for many in [1, 2, 8, 9, 10 ** 9, GREAT]:
            assert_refused(case, error, function, many, deep)
    for thing in NO_NUMBERS:
        assert_refused(case, error, function, thing, 1)
        assert_refused(case, error, function, thing, 3)
        assert_refused(case, error, function, 6, thing)
        for other in NO_NUMBERS:
            assert_refused(case, error, function, thing, other)


def assert_own_list(case, function, *arguments):
    """A told list that is changed is told anew as it was, and another one that is held stays."""
    told = function(*arguments)
    held = function(*arguments)
    case.assertIs(list, type(told))
    case.assertIsNot(told, held)
    due = list(held)
    told.append("more")
    told.reverse()
    assert_told(case, due, function(*arguments))
    told.clear()
    assert_told(case, due, function(*arguments))
    assert_told(case, due, held)


def assert_told(case, expected, told):
    """Alike in value and in kind, all the way in: 1 is not True, a list is not a tuple."""
    case.assertEqual(repr(expected), repr(told))
