"""Walks: what one who trades as planned holds on a way, and what's left at its end."""

from costhedge.hedge import points_by_step
from costhedge.plan import planned
from costhedge.ratio import less
from costhedge.ratio import minus
from costhedge.ratio import ratio
from costhedge.ratio import times
from costhedge.row import least_cash


class Walk:
    """What's left at a way's end, and the units held behind trading at each node before it."""

    def __init__(self, left, held):
        self.left = left
        self.held = held


def trading_cost(tree, i, j, x, y):
    """What trading from x units to y costs at (i, j); below 0 if so much is got."""
    price = tree.bid_at(i, j) if less(y, x) else tree.ask_at(i, j)
    return times(minus(y, x), ratio(price, 1))


def left_over(tree, claim, j, cash, units):
    """What's left of the cash behind meeting the claim at the node j of the last step."""
    cost = trading_cost(tree, tree.steps, j, units, ratio(claim.units[j], 1))
    return minus(minus(cash, ratio(claim.cash[j], 1)), cost)


def walked(tree, claim, x, way):
    """The walk of one who begins with x units and the least cash for them, and trades as planned."""
    steps = points_by_step(tree, claim)
    units = ratio(x, 1)
    cash = least_cash(steps[0][0], units)
    held = []
    j = 0
    for i, move in enumerate(way):
        target = planned(tree, i, j, steps[i + 1], units)
        cash = times(minus(cash, trading_cost(tree, i, j, units, target)), tree.growth)
        units = target
        held.append(units)
        j += move
    return Walk(left_over(tree, claim, j, cash, units), held)
