"""The plain choice of a time by votes, and the plain cover beside the times left."""

from clockverdict.bounds import require_moment, span_if_fits
from clockverdict.covers import Cover
from clockverdict.errors import BadBound
from clockverdict.exact import ONE, ZERO, divide, multiply, negate, order_of, total, weights_of
from clockverdict.spans import far_end, meet, middle_of, span_holds, width_of
from clockverdict.verdicts import left_by


def depth_at(votes, t):
    """The number of votes whose span holds the time."""
    return len([name for name, span in votes if span_holds(span, t)])


def _ends_of(votes):
    """Tuples (step, end) of all ends, ascending: step 1 where a span begins, -1 where one ends.

    An end None stands in front as a beginning and is left out as an end. At one time the
    beginnings stand first, since a span holds its ends.
    """
    open_below = [(1, None) for name, (low, high) in votes if low is None]
    ends = [(1, low) for name, (low, high) in votes if low is not None]
    ends.extend([(-1, high) for name, (low, high) in votes if high is not None])
    order = order_of([end for step, end in ends])
    return open_below + [ends[at] for at in order]


def met_by(votes, number):
    """The cover of all times with at least this depth."""
    if number <= 0:
        return Cover.everything()
    spans = []
    depth = 0
    begun = None
    for step, end in _ends_of(votes):
        if step > 0 and depth == number - 1:
            begun = end
        if step < 0 and depth == number:
            spans.append((begun, end))
        depth = depth + step
    if depth >= number:
        spans.append((begun, None))
    return Cover(spans)


def most_met(votes):
    """The greatest depth of any time, and the met cover for it."""
    number = len(votes)
    while met_by(votes, number).empty:
        number = number - 1
    return (number, met_by(votes, number))


def _shares_time(cover, span):
    return any([meet(span, part) is not None for part in cover])


def _cover_of(votes, most):
    return met_by(votes, len(votes) - most)


def outliers(votes, most):
    """The names of the votes that share no time with the met cover, ascending."""
    cover = _cover_of(votes, most)
    return sorted([name for name, span in votes if not _shares_time(cover, span)])


def _farthest(votes):
    """The name of the vote with the greatest spread, of equal spreads the greatest name."""
    weights = weights_of([middle_of(span) for name, span in votes])
    ranked = []
    for weight, (name, span) in zip(weights, votes):
        ranked.append((sum([abs(weight - other) for other in weights]), name))
    return max(ranked)[1]


def _bounded(votes):
    """The votes without an end None."""
    return [(name, span) for name, span in votes if width_of(span) is not None]


def thinned(votes, *, keep=3):
    """The votes that are left after thinning, in their order."""
    if keep < 1:
        raise BadBound(keep)
    left = _bounded(votes)
    while len(left) > keep:
        going = _farthest(left)
        left = [vote for vote in left if vote[0] != going]
    return left


def _mean(spans, weights):
    """The mean of the middles of the spans, with these weights."""
    parts = [multiply(middle_of(span), weight) for span, weight in zip(spans, weights)]
    return divide(total(*parts), total(*weights))


def weighed(votes):
    """The result of weighing all votes without an end None, or None without any."""
    spans = [span for name, span in _bounded(votes)]
    if not spans:
        return None
    points = [span for span in spans if width_of(span) == ZERO]
    if points:
        return _mean(points, [ONE for span in points])
    return _mean(spans, [divide(ONE, width_of(span)) for span in spans])


def choose(votes, most, *, keep=3):
    """The plain choice, or None."""
    cover = _cover_of(votes, most)
    inner = [(name, span) for name, span in votes if _shares_time(cover, span)]
    result = weighed(thinned(inner, keep=keep))
    # An empty cover leaves no vote, so the result is None for it, too.
    return None if result is None else cover.nearest(result)


def choice_error(votes, most, *, keep=3):
    """The greatest distance from the plain choice to a time of the met cover, or None."""
    choice = choose(votes, most, keep=keep)
    return None if choice is None else far_end(_cover_of(votes, most).hull_span(), choice)


def claims_of_votes(votes, moment):
    """The claims that the spans of the votes make on a moment."""
    claims = []
    for name, (low, high) in votes:
        if high is not None:
            claims.append((0, moment, high, name))
        if low is not None:
            claims.append((moment, 0, negate(low), name))
    return claims


def alone_votes(count, claims, names, moment):
    """The alone spans of the suspects as votes, ascending by name."""
    require_moment(count, moment)
    votes = []
    for name in sorted(names):
        others = [other for other in names if other != name]
        span = span_if_fits(count, claims, moment, others)
        if span is not None:
            votes.append((name, span))
    return votes


def plain_cover(count, claims, names, most, moment):
    """The plain cover of the moment."""
    return met_by(alone_votes(count, claims, names, moment), len(names) - most)


def compare_at(count, claims, names, most, moment, at):
    """Tells "both", "plain" or "none", as the time is left, is in the plain cover alone, or in neither."""
    if left_by(count, claims, names, most, moment).holds(at):
        return "both"
    return "plain" if plain_cover(count, claims, names, most, moment).holds(at) else "none"
