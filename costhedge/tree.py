"""Trees: bids and asks at nodes (i, j), and how cash grows."""

from costhedge.ratio import ratio


class Tree:
    """A tree of so many steps in which cash grows to a / b in each; bids and asks stand by steps."""

    def __init__(self, steps, a, b, bids, asks):
        self.steps = steps
        self.growth = ratio(a, b)
        self.shrink = ratio(b, a)
        self.bids = bids
        self.asks = asks

    def has_node(self, i, j):
        return 0 <= j <= i <= self.steps

    def has_node_before_last(self, i, j):
        return self.has_node(i, j) and i < self.steps

    def has_way(self, way):
        return len(way) == self.steps and all_between(way, 0, 1)

    def bid_at(self, i, j):
        return self.bids[nodes_before(i) + j]

    def ask_at(self, i, j):
        return self.asks[nodes_before(i) + j]


def nodes_before(i):
    """How many nodes the steps before step i have together."""
    return i * (i + 1) // 2


def all_between(numbers, low, high):
    return all([low <= number <= high for number in numbers])


def tree_refusal(n, a, b, bids, asks):
    """What refuses a tree by its numbers alone, or 0; whether it's let isn't looked at."""
    if not 1 <= n <= 4:
        return -1
    if not 1 <= b <= a <= 100:
        return -2
    nodes = nodes_before(n + 1)
    if len(bids) != nodes or len(asks) != nodes:
        return -3
    if not all_between(bids + asks, 1, 10000):
        return -4
    if any([bid > ask for bid, ask in zip(bids, asks)]):
        return -5
    return 0
