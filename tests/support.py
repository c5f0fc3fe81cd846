"""What several tests share: fractions, sample values, and ways to spoil a value."""

import copy
from fractions import Fraction


def fraction(r):
    """The Fraction of a rational (n, d)."""
    return Fraction(r[0], r[1])


def rat(n, d=1):
    """The rational tuple of n/d; n may be a Fraction."""
    value = Fraction(n) / Fraction(d)
    return (value.numerator, value.denominator)


def some_rational(rng, low=-12, high=12, most=6):
    return rat(rng.randint(low, high), rng.randint(1, most))


def plain_rational(value):
    """Point 9, written apart from the program."""
    if type(value) is not tuple or len(value) != 2:
        return False
    n, d = value
    if type(n) is not int or type(d) is not int or d < 1:
        return False
    return Fraction(n, d).denominator == d


BIG = 10 ** 400 + 1

# Values of point 5 that are none of the forms that the judges ask for, but for some rationals and spans.
ODD_VALUES = [
    None, True, False, 0, 1, -1, 7, 10 ** 12 - 1, BIG, "", "a", "way", " ", "~" * 20, [], (), {},
    [[]], [()], ([],), ((),), {"a": 1}, {1: (0, 1)}, [None], (None,), [0], (0,), (0, 1), (1, 0), (1, -1), (2, 4),
    (0, 2), (True, 1), (1, True), (False, 1), [0, 1], (0, 1, 1), (None, None), [None, None], ("0", "1"),
    ((0, 1), None), (None, (0, 1)), ((0, 1), (0, 1)), ((1, 1), (0, 1)), ((0, 1), (1, 1)), [(0, 1), (1, 1)],
    ((0, 1), (1, 1), (2, 1)), [((0, 1), (0, 1), (1, 1))], [((0, 1), (0, 1), (0, 1))], (((0, 1), (0, 1), (1, 1)),),
    [(((((((0, 1),),),),),),)], [[[[[[[[]]]]]]]], ((((((((),),),),),),),), {"a": {"b": {"c": [(1, 2), {}]}}},
    [{}], ({},), [""], [True], [False, False], [0, 0], [[0], [0]], {0: 0}, (BIG, BIG + 1), (BIG, BIG), (3, BIG),
    [(0, 1)], [(0, 1), (BIG, 1)], ("span", [], []), (((0, 1), (0, 1)), ("way", [], [(0, 1)]), ("way", [], [(0, 1)])),
]

STAND_INS = [None, True, False, 0, 1, -1, 5, 99, BIG, "", "a", [], (), {}, (0, 1), [(0, 1)], (2, 4), (1, 0)]


def _with_item(value, place, item):
    parts = list(value)
    parts[place] = item
    return tuple(parts) if type(value) is tuple else parts


def spoiled(value):
    """Copies of the value in which one thing, at any depth, is another one."""
    for other in STAND_INS:
        yield copy.deepcopy(other)
    if type(value) is int:
        for other in (value + 1, value - 1, -value, bool(value), str(value), value + BIG):
            yield other
    if type(value) is str:
        for other in (value + "s", value[:-1], [value], value.upper()):
            yield other
    if type(value) in (list, tuple):
        yield tuple(value) if type(value) is list else list(value)
        make = type(value)
        parts = list(value)
        for place in range(len(parts)):
            yield make(parts[:place] + parts[place + 1:])
            yield make(parts[:place] + [parts[place]] + parts[place:])
            if place:
                yield make(parts[:place - 1] + [parts[place], parts[place - 1]] + parts[place + 1:])
            for other in spoiled(parts[place]):
                yield _with_item(value, place, other)
        yield make(parts + [None])
        yield make(parts + [0])
        yield make(parts[::-1])
        yield {k: part for k, part in enumerate(parts)}


def check_judge(case, judge, plain, values):
    """The judge answers True or False as the plain judge does, and leaves each value as it was."""
    counts = {True: 0, False: 0}
    for value in values:
        before = copy.deepcopy(value)
        answer = judge(value)
        case.assertIs(type(answer), bool, value)
        case.assertEqual(answer, plain(value), value)
        case.assertEqual(repr(value), repr(before))
        counts[answer] += 1
    return counts


def laid_open(value):
    """A text that tells the value at any depth, that of the package's own objects too, and 1 from True."""
    if type(value) in (list, tuple):
        inner = ", ".join([laid_open(part) for part in value])
        return f"[{inner}]" if type(value) is list else f"({inner},)"
    if type(value) is dict:
        return "{" + ", ".join([f"{laid_open(key)}: {laid_open(part)}" for key, part in value.items()]) + "}"
    if type(value).__module__.startswith("clockverdict"):
        return type(value).__name__ + laid_open(vars(value))
    return repr(value)


def caught(case, kind, call, *args, **more):
    """The error that the call raises, which has to be of exactly this class; the arguments stay as they were."""
    before = laid_open((args, more))
    try:
        call(*args, **more)
    except kind as error:
        case.assertIs(type(error), kind)
        case.assertEqual(laid_open((args, more)), before)
        return error
    case.fail(f"{kind.__name__} was not raised")


def unchanged(case, call, *args, **more):
    """The result of the call, made twice: equal, nothing shared, and the arguments as they were."""
    before = laid_open((args, more))
    first = call(*args, **more)
    again = call(*args, **more)
    case.assertEqual(laid_open(first), laid_open(again))
    case.assertEqual(laid_open((args, more)), before)
    seen = {id(part) for part in boxes((args, list(more.values())))}
    for part in boxes(first) + boxes(again):
        case.assertNotIn(id(part), seen)
        seen.add(id(part))
    return first


def boxes(value):
    """All lists and dicts within a value, itself included, once for each place where they stand."""
    found = []
    if type(value) in (list, dict):
        found.append(value)
    if type(value) in (list, tuple):
        for part in value:
            found.extend(boxes(part))
    if type(value) is dict:
        for part in value.values():
            found.extend(boxes(part))
    return found
