"""Promise 8: plan."""

import unittest
from fractions import Fraction

from tests.helper import EXAMPLE_TREE, FAR, ask, ask_last, check_refused, check_unchanged, claim, document_bounds
from tests.helper import document_nodes, document_plan, fractions_of, made_cases, node_number, nodes_of, plan, points
from tests.helper import read_fraction, read_points, text, trading_cost, tree

# The row at (0, 0) goes 10 30, 20 60, 30 80, 40 90: its slopes are 3, 2 and 1.
END_BIDS = [10, 30]
END_ASKS = [20, 40]
BENT_CLAIM = ([0, 50], [3, 1])
HOLDINGS = [Fraction(top, 4) for top in range(-2, 18)] + [Fraction(1000000), Fraction(-1000000)]


def bent_tree(bid, asked):
    return (1, 1, 1, [bid] + END_BIDS, [asked] + END_ASKS)


def told_plans(whole, asked_for, i, j, holdings):
    calls = [plan(0, i, j, x.numerator, x.denominator) for x in holdings]
    return [read_fraction(answer) for answer in ask(tree(*whole), claim(0, *asked_for), *calls)[2:]]


def told_plan(whole, asked_for, i, j, num, den):
    return read_fraction(ask_last(tree(*whole), claim(0, *asked_for), plan(0, i, j, num, den)))


def held_within(x, low, high):
    """What's planned where low and high, each None if there's none, are the bounds."""
    if low is not None and x < low:
        return Fraction(low)
    if high is not None and x > high:
        return Fraction(high)
    return x


class Bounds(unittest.TestCase):
    def check(self, bid, asked, low, high):
        told = told_plans(bent_tree(bid, asked), BENT_CLAIM, 0, 0, HOLDINGS)
        expected = [text(held_within(x, low, high)) for x in HOLDINGS]
        self.assertEqual(told, expected, (bid, asked))

    def test_below_at_between_and_above_them(self):
        whole = bent_tree(15, 35)
        for num, den, expected in ((0, 1, "1/1"), (-9, 1, "1/1"), (99, 100, "1/1"), (1, 1, "1/1"), (101, 100, "101/100"),
                                   (2, 1, "2/1"), (299, 100, "299/100"), (3, 1, "3/1"), (301, 100, "3/1"),
                                   (1000000, 1, "3/1"), (-1000000, 1, "1/1")):
            self.assertEqual(told_plan(whole, BENT_CLAIM, 0, 0, num, den), expected)

    def test_both(self):
        self.check(15, 35, 1, 3)
        self.check(11, 39, 1, 3)
        self.check(15, 25, 2, 3)
        self.check(25, 35, 1, 2)
        self.check(21, 29, 2, 2)
        self.check(15, 16, 3, 3)

    def test_one(self):
        self.check(15, 41, None, 3)
        self.check(35, 99, None, 1)
        self.check(9, 35, 1, None)
        self.check(1, 15, 3, None)

    def test_none(self):
        self.check(10, 40, None, None)
        self.check(9, 41, None, None)
        self.check(1, 10000, None, None)

    def test_a_piece_begins_or_ends_just_at_the_ask(self):
        for asked, low in ((10, 3), (19, 3), (20, 2), (21, 2), (29, 2), (30, 1), (31, 1), (39, 1), (40, None), (41, None)):
            self.check(5, asked, low, None)

    def test_a_piece_begins_or_ends_just_at_the_bid(self):
        for bid, high in ((9, None), (10, None), (11, 3), (19, 3), (20, 3), (21, 2), (29, 2), (30, 2), (31, 1), (40, 1)):
            self.check(bid, 50, None, high)

    def test_bid_equal_to_ask(self):
        for price, low, high in ((10, 3, None), (15, 3, 3), (20, 2, 3), (25, 2, 2), (30, 1, 2), (35, 1, 1), (40, None, 1)):
            self.check(price, price, low, high)

    def test_a_row_of_one_point_has_none(self):
        whole = (1, 1, 1, [5, 10, 10], [30, 10, 10])
        told = told_plans(whole, ([3, 8], [4, -5]), 0, 0, HOLDINGS)
        self.assertEqual(told, [text(x) for x in HOLDINGS])

    def test_of_the_row_before_it_is_cut(self):
        # What's left of the row from 24 to 26 has no piece beyond these.
        self.check(24, 26, 2, 2)
        self.assertEqual(read_points(ask_last(tree(*bent_tree(24, 26)), claim(0, *BENT_CLAIM), points(0, 0, 0))),
                         [("24/1", "68/1"), ("26/1", "72/1")])


class Plan(unittest.TestCase):
    def test_the_example(self):
        self.assertEqual(told_plan(EXAMPLE_TREE, ([0, 0], [0, 1]), 0, 0, 2, 1), "2/1")

    def test_the_answer_number_by_number(self):
        before = [tree(*EXAMPLE_TREE), claim(0, [0, 0], [0, 1])]
        self.assertEqual(ask_last(*before, plan(0, 0, 0, 2, 1)), [0, 50, 47, 49])
        self.assertEqual(ask_last(*before, plan(0, 0, 0, 4, 1)), [0, 49, 49, 47, 51])

    def test_the_example_for_other_holdings(self):
        for num, den, expected in ((0, 1, "1/1"), (1, 1, "1/1"), (4, 3, "4/3"), (11, 3, "11/3"), (367, 100, "11/3")):
            self.assertEqual(told_plan(EXAMPLE_TREE, ([0, 0], [0, 1]), 0, 0, num, den), expected)

    def test_a_holding_that_is_not_in_lowest_terms(self):
        whole = bent_tree(1, 99)
        for num, den, expected in ((4, 2, "2/1"), (10, 4, "5/2"), (-6, 4, "-3/2"), (0, 7, "0/1"), (0, 1000000, "0/1"),
                                   (1000000, 1000000, "1/1"), (-1000000, 1000000, "-1/1"), (999999, 3, "333333/1")):
            self.assertEqual(told_plan(whole, BENT_CLAIM, 0, 0, num, den), expected)
        for num, den, expected in ((2, 2, "1/1"), (6, 2, "3/1"), (10, 4, "5/2"), (14, 4, "3/1"), (2, 4, "1/1")):
            self.assertEqual(told_plan(bent_tree(15, 35), BENT_CLAIM, 0, 0, num, den), expected)

    def test_bounds_below_0_and_0(self):
        # The row goes 10 -10, 20 -20, 30 -40, 40 -70.
        falling = ([0, 50], [-1, -3])
        self.assertEqual(told_plan(bent_tree(15, 35), falling, 0, 0, -9, 1), "-3/1")
        self.assertEqual(told_plan(bent_tree(15, 35), falling, 0, 0, -5, 2), "-5/2")
        self.assertEqual(told_plan(bent_tree(15, 35), falling, 0, 0, 0, 1), "-1/1")
        level = ([60, 60], [0, 0])
        self.assertEqual(told_plan(bent_tree(15, 35), level, 0, 0, 5, 1), "0/1")
        self.assertEqual(told_plan(bent_tree(15, 35), level, 0, 0, -5, 3), "0/1")
        self.assertEqual(told_plan((1, 1, 1, [15, 10, 20], [15, 10, 20]), ([4, -3], [0, 0]), 0, 0, 0, 1), "-7/10")

    def test_cash_that_grows_draws_the_row_down(self):
        # The row goes 5 15, 10 30, 15 40, 20 45 where cash grows to twice as much.
        for bid, asked, low, high in ((7, 17, 1, 3), (10, 10, 2, 3), (15, 15, 1, 2), (5, 20, None, None), (12, 12, 2, 2)):
            whole = (1, 2, 1, [bid] + END_BIDS, [asked] + END_ASKS)
            told = told_plans(whole, BENT_CLAIM, 0, 0, HOLDINGS)
            self.assertEqual(told, [text(held_within(x, low, high)) for x in HOLDINGS])

    def test_each_node_has_its_own(self):
        whole = (2, 1, 1, [50, 30, 70, 20, 50, 90], [50, 30, 70, 20, 50, 90])
        asked_for = ([0, 30, 10], [0, 0, 0])
        self.assertEqual(told_plan(whole, asked_for, 1, 0, 0, 1), "1/1")
        self.assertEqual(told_plan(whole, asked_for, 1, 1, 0, 1), "-1/2")
        # (1, 0) is worth 10 at 30 and (1, 1) is worth 20 at 70.
        self.assertEqual(told_plan(whole, asked_for, 0, 0, 0, 1), "1/4")

    def test_each_register_has_its_own(self):
        calls = [tree(*bent_tree(25, 25))] + [claim(r, [0, 0], [r, r]) for r in (0, 1, 2)]
        for r in (0, 1, 2):
            self.assertEqual(read_fraction(ask_last(*calls, plan(r, 0, 0, 7, 1))), f"{r}/1")

    def test_nothing_is_changed(self):
        before = [tree(*EXAMPLE_TREE), claim(0, [1, 2], [3, 4])]
        for num in (0, 2, 9):
            check_unchanged(self, before, plan(0, 0, 0, num, 1))


class MadeCases(unittest.TestCase):
    def holdings(self, bounds):
        """Below, at, between and above the bounds, as far as a call can tell them, and others."""
        told = [Fraction(0), Fraction(-7, 3), Fraction(1000000), Fraction(-1000000), Fraction(1, 1000000)]
        for bound in bounds:
            if bound is not None and bound.denominator < 1000 and abs(bound.numerator) < 900:
                told += [bound, bound - Fraction(1, 1000), bound + Fraction(1, 1000)]
        return [x for x in told if x.denominator <= 1000000 and abs(x.numerator) <= 1000000]

    def test_against_the_words_of_the_document(self):
        kinds = set()
        for whole, asked_for in made_cases():
            rows = document_nodes(*whole, *asked_for)[0]
            for i, j in rows:
                bid, asked = whole[3][node_number(i, j)], whole[4][node_number(i, j)]
                bounds = document_bounds(rows[i, j], bid, asked)
                kinds.add((bounds[0] is None, bounds[1] is None))
                holdings = self.holdings(bounds)
                expected = [text(document_plan(rows[i, j], bid, asked, x)) for x in holdings]
                with self.subTest(whole=whole, asked_for=asked_for, node=(i, j)):
                    self.assertEqual(told_plans(whole, asked_for, i, j, holdings), expected)
        self.assertEqual(len(kinds), 4)

    def test_with_it_the_least_cash_is_enough_at_both_nodes_that_come(self):
        for whole, asked_for in made_cases()[::3]:
            n, a, b, bids, asks = whole
            nodes = nodes_of(n)
            answers = ask(tree(*whole), claim(0, *asked_for), *[points(0, i, j) for i, j in nodes])[2:]
            rows = {node: fractions_of(read_points(answer)) for node, answer in zip(nodes, answers)}
            for i, j in nodes_of(n - 1):
                for x in (Fraction(0), Fraction(-70, 9), Fraction(999983, 7), Fraction(-999983)):
                    y = Fraction(told_plans(whole, asked_for, i, j, [x])[0])
                    needed = max(v - q * y for node in ((i + 1, j), (i + 1, j + 1)) for q, v in rows[node])
                    cost = trading_cost(bids[node_number(i, j)], asks[node_number(i, j)], x, y)
                    self.assertEqual(cost + needed * b / a, max(v - q * x for q, v in rows[i, j]))

    def test_who_holds_what_is_planned_stays(self):
        for whole, asked_for in made_cases()[::5]:
            for i, j in nodes_of(whole[0] - 1):
                once = Fraction(told_plans(whole, asked_for, i, j, [Fraction(1, 3)])[0])
                if once.denominator <= 1000000 and abs(once.numerator) <= 1000000:
                    self.assertEqual(told_plans(whole, asked_for, i, j, [once]), [text(once)])


class Refused(unittest.TestCase):
    BEFORE = [tree(*EXAMPLE_TREE), claim(0, [1, 2], [3, 4])]

    def test_no_tree(self):
        check_refused(self, [], plan(0, 0, 0, 0, 1), -7)

    def test_registers(self):
        for r in (-1, 3, FAR, -FAR):
            check_refused(self, self.BEFORE, plan(r, 0, 0, 0, 1), -1)
        for r in (1, 2):
            check_refused(self, self.BEFORE, plan(r, 0, 0, 0, 1), -2)

    def test_no_such_node_before_the_last_step(self):
        for i, j in ((1, 0), (1, 1), (1, 2), (0, 1), (0, -1), (-1, 0), (-1, -1), (2, 0), (FAR, 0), (-FAR, -FAR), (0, FAR)):
            check_refused(self, self.BEFORE, plan(0, i, j, 0, 1), -3)

    def test_the_last_step_of_every_tree(self):
        for n in (1, 2, 3, 4):
            count = len(nodes_of(n))
            before = [tree(n, 1, 1, [7] * count, [7] * count), claim(0, [0] * (n + 1), [0] * (n + 1))]
            for i, j in nodes_of(n + 1):
                answer = ask_last(*before, plan(0, i, j, 5, 1))
                self.assertEqual(answer, [0, 53, 47, 49] if i < n else [-3])
            self.assertEqual(ask_last(*before, plan(0, n - 1, n, 5, 1)), [-3])

    def test_holding(self):
        for num, den in ((0, 0), (1, -1), (0, -1), (0, 1000001), (0, FAR), (0, -FAR), (1000001, 1), (-1000001, 1),
                         (1000001, 1000000), (FAR, 1), (-FAR, 1), (FAR, FAR)):
            check_refused(self, self.BEFORE, plan(0, 0, 0, num, den), -4)

    def test_edges_of_the_holding_that_are_taken(self):
        for num in (1000000, -1000000):
            for den in (1, 1000000):
                check_unchanged(self, self.BEFORE, plan(0, 0, 0, num, den))

    def test_order(self):
        self.assertEqual(ask(plan(3, 9, 9, FAR, 0)), [[-7]])
        self.assertEqual(ask_last(*self.BEFORE, plan(3, 9, 9, FAR, 0)), [-1])
        self.assertEqual(ask_last(*self.BEFORE, plan(3, 0, 0, 0, 0)), [-1])
        self.assertEqual(ask_last(*self.BEFORE, plan(2, 9, 9, FAR, 0)), [-2])
        self.assertEqual(ask_last(*self.BEFORE, plan(2, 0, 0, 0, 0)), [-2])
        self.assertEqual(ask_last(*self.BEFORE, plan(0, 1, 0, FAR, 1)), [-3])
        self.assertEqual(ask_last(*self.BEFORE, plan(0, 1, 0, 0, 0)), [-3])


if __name__ == "__main__":
    unittest.main()
