"""The points of a tree's nodes for a claim."""

from costhedge.claim import empty_claim
from costhedge.ratio import ratio
from costhedge.row import cut_row
from costhedge.row import scaled
from costhedge.row import upper_row


def end_points(bid, ask, cash, units):
    """The points of a node of the last step."""
    points = [(ratio(bid, 1), ratio(cash + units * bid, 1))]
    if ask > bid:
        points.append((ratio(ask, 1), ratio(cash + units * ask, 1)))
    return points


def last_step(tree, claim):
    """The points of each node of the last step, by rising j."""
    n = tree.steps
    return [end_points(tree.bid_at(n, j), tree.ask_at(n, j), claim.cash[j], claim.units[j]) for j in range(n + 1)]


def row_before(tree, left, right):
    """The upper row, before it's cut, of a node from which one comes to nodes of these points."""
    return upper_row(scaled(left, tree.shrink), scaled(right, tree.shrink))


def step_before(tree, i, coming):
    """The points of each node of step i, by rising j; coming holds those of the step behind it."""
    points = []
    for j in range(i + 1):
        row = row_before(tree, coming[j], coming[j + 1])
        points.append(cut_row(row, ratio(tree.bid_at(i, j), 1), ratio(tree.ask_at(i, j), 1)))
    return points


def points_by_step(tree, claim):
    """The points of every node, by steps and in each by rising j, on a tree that's let."""
    steps = [last_step(tree, claim)]
    for i in range(tree.steps - 1, -1, -1):
        steps.insert(0, step_before(tree, i, steps[0]))
    return steps


def node_range(tree, i, j):
    """The first and the last q of a node's points."""
    # These don't hang on the claim, so one that asks for nothing tells them.
    points = points_by_step(tree, empty_claim(tree.steps))[i][j]
    return (points[0][0], points[-1][0])


def is_let(tree):
    """Whether at every node some of the row lies from the bid to the ask, which hangs on no claim."""
    points = last_step(tree, empty_claim(tree.steps))
    for step in range(tree.steps - 1, -1, -1):
        points = step_before(tree, step, points)
        if [] in points:
            return False
    return True
