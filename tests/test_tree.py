"""Promise 1: tree."""

import random
import unittest

from tests.helper import EXAMPLE_TREE, FAR, ask, ask_last, check_refused, claim, made_tree, node_number
from tests.helper import nodes_of, points, range_of, read_counted, seen_behind, spans_of, tree

# The rows of its inner nodes are wider than their quotes, so that range tells these as they are.
WIDE_BIDS = [995, 990, 1000, 500, 900, 1500]
WIDE_ASKS = [1005, 1010, 1020, 600, 1100, 1600]
WIDE_TREE = tree(2, 1, 1, WIDE_BIDS, WIDE_ASKS)


class Taken(unittest.TestCase):
    def test_how_many_nodes(self):
        for n, nodes in ((1, 3), (2, 6), (3, 10), (4, 15)):
            self.assertEqual(ask(tree(n, 1, 1, [7] * nodes, [7] * nodes)), [[nodes]])

    def test_bids_and_asks_stand_by_steps_and_rising_j(self):
        for i, j in nodes_of(2):
            told = read_counted(ask_last(WIDE_TREE, range_of(i, j))[1:])
            at = node_number(i, j)
            self.assertEqual(told, [f"{WIDE_BIDS[at]}/1", f"{WIDE_ASKS[at]}/1"])

    def test_edges_that_are_taken(self):
        taken = (
            (1, 100, 100, [1, 1, 1], [1, 1, 1]),
            (1, 1, 1, [10000] * 3, [10000] * 3),
            (1, 1, 1, [1, 1, 10000], [10000, 1, 10000]),
            (1, 100, 1, [1, 100, 10000], [1, 100, 10000]),
            (4, 1, 1, [1] * 15, [10000] * 15),
        )
        for parts in taken:
            with self.subTest(parts=parts):
                self.assertEqual(ask(tree(*parts)), [[len(parts[3])]])

    def test_all_registers_are_emptied(self):
        calls = [tree(*EXAMPLE_TREE)] + [claim(r, [1, 2], [3, 4]) for r in (0, 1, 2)]
        filled = ask(*calls, points(0, 0, 0), points(1, 0, 0), points(2, 0, 0))[-3:]
        self.assertTrue(all(answer[0] > 0 for answer in filled))
        emptied = ask(*calls, tree(*EXAMPLE_TREE), points(0, 0, 0), points(1, 0, 0), points(2, 0, 0))
        self.assertEqual(emptied[-4:], [[3], [-2], [-2], [-2]])

    def test_the_later_tree_is_there(self):
        self.assertEqual(seen_behind(tree(*EXAMPLE_TREE), WIDE_TREE), seen_behind(WIDE_TREE))
        self.assertEqual(seen_behind(WIDE_TREE, tree(*EXAMPLE_TREE)), seen_behind(tree(*EXAMPLE_TREE)))

    def test_a_claim_behind_a_new_tree_is_as_long_as_that_one_asks(self):
        self.assertEqual(ask_last(tree(*EXAMPLE_TREE), WIDE_TREE, claim(0, [0] * 3, [0] * 3)), [0])
        self.assertEqual(ask_last(tree(*EXAMPLE_TREE), WIDE_TREE, claim(0, [0] * 2, [0] * 2)), [-3])


class Refused(unittest.TestCase):
    def check(self, refusal, *parts):
        """Refused on a new object, and on one that has a tree and a claim."""
        with self.subTest(parts=parts):
            check_refused(self, [], tree(*parts), refusal)
            check_refused(self, [WIDE_TREE, claim(1, [1, 2, 3], [4, 5, 6])], tree(*parts), refusal)

    def test_steps(self):
        for n in (0, 5, -1, FAR, -FAR):
            self.check(-1, n, 1, 1, [7] * 3, [7] * 3)
        self.check(-1, 0, 1, 1, [7], [7])

    def test_growth(self):
        wrong = ((0, 0), (1, 0), (0, 1), (101, 1), (101, 101), (1, 2), (99, 100), (5, -1), (-1, -1), (FAR, 1), (1, -FAR))
        for a, b in wrong:
            self.check(-2, 1, a, b, [7] * 3, [7] * 3)

    def test_how_many_bids_and_asks(self):
        for n, nodes in ((1, 3), (2, 6), (3, 10), (4, 15)):
            for bids, asks in ((nodes - 1, nodes), (nodes, nodes - 1), (nodes + 1, nodes), (nodes, nodes + 1),
                               (nodes - 1, nodes - 1), (nodes + 1, nodes + 1), (0, 0), (nodes - 1, nodes + 1)):
                self.check(-3, n, 1, 1, [7] * bids, [7] * asks)

    def test_bids_and_asks_out_of_bounds(self):
        for at in range(3):
            for wrong in (0, -1, 10001, FAR, -FAR):
                prices = [10000, 10000, 10000]
                prices[at] = wrong
                self.check(-4, 1, 1, 1, prices, [10000] * 3)
                self.check(-4, 1, 1, 1, [1] * 3, prices)

    def test_a_bid_above_its_ask(self):
        for at in range(6):
            asks = [7] * 6
            asks[at] = 6
            self.check(-5, 2, 1, 1, [7] * 6, asks)

    def test_not_let(self):
        self.check(-6, 1, 1, 1, [81, 70, 80], [90, 70, 80])
        self.check(-6, 1, 1, 1, [60, 70, 80], [69, 70, 80])
        # Cash that grows draws the row down to 63 .. 72.
        self.check(-6, 1, 10, 9, [73, 70, 80], [75, 70, 80])
        self.check(-6, 1, 10, 9, [60, 70, 80], [62, 70, 80])

    def test_let_where_the_row_just_touches(self):
        for a, b, bid, asked in ((1, 1, 80, 90), (1, 1, 60, 70), (10, 9, 72, 75), (10, 9, 60, 63)):
            self.assertEqual(ask(tree(1, a, b, [bid, 70, 80], [asked, 70, 80])), [[3]])

    def test_let_between_the_spans_of_both_nodes_that_come(self):
        self.assertEqual(ask(tree(1, 1, 1, [75, 60, 80], [76, 70, 90])), [[3]])

    def test_one_node_within_is_enough(self):
        for n in (1, 2, 3, 4):
            inner = [(i, j) for i, j in nodes_of(n) if i < n]
            for i, j in inner:
                bids = [50] * len(nodes_of(n))
                asks = list(bids)
                bids[node_number(i, j)] = asks[node_number(i, j)] = 51
                self.check(-6, n, 1, 1, bids, asks)

    def test_what_a_node_within_cuts_off_is_gone_for_the_nodes_before(self):
        # (1, 0) and (1, 1) leave 95 .. 105 of 50 .. 200, so that 110 at (0, 0) isn't within it.
        self.check(-6, 2, 1, 1, [110, 95, 95, 50, 50, 50], [120, 105, 105, 200, 200, 200])
        self.assertEqual(ask(tree(2, 1, 1, [105, 95, 95, 50, 50, 50], [120, 105, 105, 200, 200, 200])), [[6]])

    def test_let_or_not_by_the_spans(self):
        source = random.Random(5)
        seen = {True: 0, False: 0}
        for seed in range(120):
            n, a, b, bids, asks = made_tree(seed, 1 + seed % 4, 60)
            at = source.randrange(len(bids))
            bids[at] = max(1, bids[at] + source.randint(-900, 900))
            asks[at] = max(bids[at], asks[at])
            let = spans_of(n, a, b, bids, asks) is not None
            seen[let] += 1
            self.assertEqual(ask(tree(n, a, b, bids, asks)), [[len(bids) if let else -6]])
        self.assertGreater(min(seen.values()), 20)


class Order(unittest.TestCase):
    def test_each_refusal_goes_ahead_of_those_behind_it(self):
        not_let = ([81, 70, 80], [90, 70, 80])
        wrong = (
            (-1, (0, 0, 1, [7], [7, 7])),
            (-1, (5, 1, 1, [7], [7])),
            (-1, (0, 1, 1, [0] * 3, [7] * 3)),
            (-2, (1, 1, 2, [7], [7])),
            (-2, (1, 0, 0, [0] * 3, [0] * 3)),
            (-2, (1, 1, 2, [8] * 3, [7] * 3)),
            (-2, (1, 1, 2, *not_let)),
            (-3, (1, 1, 1, [0] * 2, [7] * 3)),
            (-3, (1, 1, 1, [8] * 3, [7] * 4)),
            (-4, (1, 1, 1, [8, 0, 7], [7, 7, 7])),
            (-4, (1, 1, 1, [10001] * 3, [7] * 3)),
            (-4, (1, 1, 1, [8, 7, 7], [7, 7, 0])),
            (-5, (1, 1, 1, [91, 70, 80], [90, 70, 80])),
        )
        for refusal, parts in wrong:
            with self.subTest(parts=parts):
                self.assertEqual(ask(tree(*parts)), [[refusal]])


if __name__ == "__main__":
    unittest.main()
