"""Rows of points: lists of tuples (q, v) of two fractions, by rising q and no q twice."""

from costhedge.ratio import greater
from costhedge.ratio import less
from costhedge.ratio import lesser
from costhedge.ratio import minus
from costhedge.ratio import over
from costhedge.ratio import plus
from costhedge.ratio import times


def scaled(points, factor):
    """The points with q and v times a factor above 0."""
    return [(times(q, factor), times(v, factor)) for q, v in points]


def stands_before(one, other):
    """Whether one has the lesser q, or the lesser v at the same q."""
    if one[0] == other[0]:
        return less(one[1], other[1])
    return less(one[0], other[0])


def merged(left, right):
    """All points of two rows by rising q, those of one q by rising v."""
    both = []
    taken = 0
    for point in left:
        while taken < len(right) and stands_before(right[taken], point):
            both.append(right[taken])
            taken += 1
        both.append(point)
    return both + right[taken:]


def lies_above(point, left, right):
    """Whether a point lies above the line from left, of a lesser q, to right, of a greater."""
    rise = times(minus(point[1], left[1]), minus(right[0], left[0]))
    line_rise = times(minus(right[1], left[1]), minus(point[0], left[0]))
    return less(line_rise, rise)


def upper_row(left, right):
    """The upper row over the points of two rows."""
    row = []
    for point in merged(left, right):
        # Of one q the point that comes later has the greater v, so it takes the place.
        if len(row) > 0 and row[-1][0] == point[0]:
            row.pop()
        while len(row) > 1 and not lies_above(row[-1], row[-2], point):
            row.pop()
        row.append(point)
    return row


def piece_slope(left, right):
    """The slope of the straight piece from left, of the lesser q, to right."""
    return over(minus(right[1], left[1]), minus(right[0], left[0]))


def value_at(row, q):
    """The v that the row tells at q, which lies from its first q to its last one."""
    place = 0
    while less(row[place][0], q):
        place += 1
    right = row[place]
    if right[0] == q:
        return right[1]
    left = row[place - 1]
    return plus(left[1], times(piece_slope(left, right), minus(q, left[0])))


def cut_row(row, low, high):
    """The part of the row from low to high; no points if nothing of it lies there."""
    first = greater(low, row[0][0])
    last = lesser(high, row[-1][0])
    if less(last, first):
        return []
    if first == last:
        return [(first, value_at(row, first))]
    between = [point for point in row if less(first, point[0]) and less(point[0], last)]
    return [(first, value_at(row, first))] + between + [(last, value_at(row, last))]


def least_cash(points, x):
    """The greatest of v - q x over a node's points: the least cash there for x units."""
    found = minus(points[0][1], times(points[0][0], x))
    for q, v in points:
        found = greater(found, minus(v, times(q, x)))
    return found
