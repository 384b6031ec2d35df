"""Plans: what one should hold at a node before the last step."""

from costhedge.hedge import row_before
from costhedge.ratio import less
from costhedge.ratio import ratio
from costhedge.row import piece_slope


def lower_bound(row, ask):
    """The slope of the row's piece that goes on above the ask, or None if the row ends there or below."""
    for left, right in zip(row, row[1:]):
        if not less(ask, left[0]) and less(ask, right[0]):
            return piece_slope(left, right)
    return None


def upper_bound(row, bid):
    """The slope of the row's piece that goes on below the bid, or None if the row begins there or above."""
    for left, right in zip(row, row[1:]):
        if less(left[0], bid) and not less(right[0], bid):
            return piece_slope(left, right)
    return None


def planned(tree, i, j, coming, x):
    """What one who holds x units at (i, j) plans to hold; coming holds the points of the step behind it."""
    row = row_before(tree, coming[j], coming[j + 1])
    low = lower_bound(row, ratio(tree.ask_at(i, j), 1))
    if low is not None and less(x, low):
        return low
    high = upper_bound(row, ratio(tree.bid_at(i, j), 1))
    if high is not None and less(high, x):
        return high
    return x
