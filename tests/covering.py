"""What the tests of covers and choices share: sets of times, written apart from the program."""

from fractions import Fraction

from tests.support import fraction, rat

# Stands for an end None; no time of the tests is as far away.
FAR = Fraction(10 ** 600)


def low_end(span):
    return -FAR if span[0] is None else fraction(span[0])


def high_end(span):
    return FAR if span[1] is None else fraction(span[1])


def told_end(end):
    return None if abs(end) == FAR else rat(end)


def plain_normal(spans):
    """The normal form of spans, by sorting them."""
    found = []
    for low, high in sorted([(low_end(span), high_end(span)) for span in spans]):
        if found and low <= found[-1][1]:
            found[-1] = (found[-1][0], max(found[-1][1], high))
        else:
            found.append((low, high))
    return [(told_end(low), told_end(high)) for low, high in found]


def plain_holds(spans, t):
    return any([low_end(span) <= fraction(t) <= high_end(span) for span in spans])


def times_around(spans):
    """Times at, between, just below and just above all ends, and far away on each side."""
    ends = sorted({fraction(end) for span in spans for end in span if end is not None} | {Fraction(0)})
    times = list(ends)
    times += [(a + b) / 2 for a, b in zip(ends, ends[1:])]
    times += [end + Fraction(sign, 1000) for end in ends for sign in (1, -1)]
    times += [ends[0] - 10 ** 5, ends[-1] + 10 ** 5]
    return [rat(t) for t in times]


def some_span(rng, low=-6, high=6, most=2):
    """A span with ends from a few times, so that ends often fall together; now and then a single time or an end None."""
    ends = sorted([Fraction(rng.randint(low, high), rng.randint(1, most)) for _ in range(2)])
    if rng.random() < 0.2:
        ends[1] = ends[0]
    found = [rat(end) for end in ends]
    for at in (0, 1):
        if rng.random() < 0.08:
            found[at] = None
    return tuple(found)


def some_spans(rng, many=5):
    return [some_span(rng) for _ in range(rng.randint(0, many))]
