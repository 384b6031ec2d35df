"""Promise 5: least."""

import unittest
from fractions import Fraction

from tests.helper import EXAMPLE_TREE, FAR, ask, ask_last, check_refused, claim, fractions_of, least, made_cases
from tests.helper import node_number, nodes_of, points, read_fraction, read_points, text, trading_cost, tree

HOLDINGS = (0, 1, -1, 2, 37, -1000, 999999, 1000000, -1000000)


def told_least(whole, asked_for, i, j, x):
    return read_fraction(ask_last(tree(*whole), claim(0, *asked_for), least(0, i, j, x)))


class Bent:
    """A function of straight pieces: it bends at most at the places told, and is straight beyond them."""

    def __init__(self, function, places):
        inner = sorted(set(places))
        self.knots = [(x, function(x)) for x in [inner[0] - 1] + inner + [inner[-1] + 1]]

    def places(self):
        return [x for x, value in self.knots]

    def at(self, x):
        k = 0
        while k + 2 < len(self.knots) and self.knots[k + 1][0] < x:
            k += 1
        (x1, y1), (x2, y2) = self.knots[k], self.knots[k + 1]
        return y1 + (y2 - y1) * (x - x1) / (x2 - x1)


def crossings(one, other):
    """Places that hold every one where two bent functions change which is the greater."""
    places = sorted(set(one.places() + other.places()))
    found = list(places)
    for x1, x2 in zip(places, places[1:]):
        d1 = one.at(x1) - other.at(x1)
        d2 = one.at(x2) - other.at(x2)
        # Drawn on as a straight line, so that the first and the last piece show crossings beyond them too.
        if d1 != d2:
            found.append(x1 - d1 * (x2 - x1) / (d2 - d1))
    return found


def traded_least(n, a, b, bids, asks, cash, units):
    """By node the least cash for x units, by trading and meeting the claim as the words tell it."""
    found = {}
    for i, j in reversed(nodes_of(n)):
        bid = Fraction(bids[node_number(i, j)])
        asked = Fraction(asks[node_number(i, j)])
        if i == n:
            found[i, j] = Bent(lambda x: cash[j] + trading_cost(bid, asked, x, units[j]), [Fraction(units[j])])
            continue
        left, right = found[i + 1, j], found[i + 1, j + 1]
        places = crossings(left, right)

        def needed(x):
            # What's needed is straight in y between these places, so the least lies at one of them.
            targets = places + [x]
            return min(trading_cost(bid, asked, x, y) + max(left.at(y), right.at(y)) * b / a for y in targets)

        found[i, j] = Bent(needed, places)
    return found


class Least(unittest.TestCase):
    def test_the_example(self):
        self.assertEqual(told_least(EXAMPLE_TREE, ([0, 0], [0, 1]), 0, 0, 2), "-110/1")

    def test_the_answer_number_by_number(self):
        answer = ask_last(tree(*EXAMPLE_TREE), claim(0, [0, 0], [0, 1]), least(0, 0, 0, 2))
        self.assertEqual(answer, [0, 45, 49, 49, 48, 47, 49])

    def test_the_example_for_other_holdings(self):
        for x, expected in ((0, "115/1"), (1, "0/1"), (3, "-220/1"), (-1, "230/1"), (4, "-970/3")):
            self.assertEqual(told_least(EXAMPLE_TREE, ([0, 0], [0, 1]), 0, 0, x), expected)

    def test_at_the_last_step(self):
        asked_for = ([5, -7], [2, -3])
        self.assertEqual(told_least(EXAMPLE_TREE, asked_for, 1, 0, 0), "165/1")
        self.assertEqual(told_least(EXAMPLE_TREE, asked_for, 1, 0, 2), "5/1")
        self.assertEqual(told_least(EXAMPLE_TREE, asked_for, 1, 1, -3), "-7/1")
        self.assertEqual(told_least(EXAMPLE_TREE, asked_for, 1, 1, -4), "123/1")
        self.assertEqual(told_least(EXAMPLE_TREE, asked_for, 1, 1, -2), "-117/1")

    def test_nothing_is_nought(self):
        self.assertEqual(ask_last(tree(*EXAMPLE_TREE), claim(0, [0, 0], [0, 0]), least(0, 0, 0, 0)), [0, 48, 47, 49])

    def test_lowest_terms(self):
        whole = (1, 6, 4, [1, 10, 10], [99, 10, 10])
        for cash, expected in ((3, "2/1"), (1, "2/3"), (-1, "-2/3"), (-3, "-2/1"), (100, "200/3"), (0, "0/1")):
            self.assertEqual(told_least(whole, ([cash, cash], [0, 0]), 0, 0, 0), expected)

    def test_edges_of_the_holding(self):
        whole = (1, 1, 1, [10000] * 3, [10000] * 3)
        asked_for = ([1000000, -1000000], [1000000, 1000000])
        self.assertEqual(told_least(whole, asked_for, 0, 0, -1000000), "20001000000/1")
        self.assertEqual(told_least(whole, asked_for, 0, 0, 1000000), "1000000/1")

    def test_it_is_the_greatest_over_the_points(self):
        for whole, asked_for in made_cases():
            nodes = nodes_of(whole[0])
            begin = [tree(*whole), claim(0, *asked_for)]
            rows = [fractions_of(read_points(answer)) for answer in ask(*begin, *[points(0, i, j) for i, j in nodes])[2:]]
            for x in HOLDINGS:
                told = ask(*begin, *[least(0, i, j, x) for i, j in nodes])[2:]
                expected = [text(max(v - q * x for q, v in row)) for row in rows]
                self.assertEqual([read_fraction(answer) for answer in told], expected)

    def test_it_is_what_trading_and_meeting_the_claim_takes(self):
        for whole, asked_for in made_cases():
            nodes = nodes_of(whole[0])
            traded = traded_least(*whole, *asked_for)
            calls = [least(0, i, j, x) for i, j in nodes for x in HOLDINGS]
            told = ask(tree(*whole), claim(0, *asked_for), *calls)[2:]
            expected = [text(traded[node].at(Fraction(x))) for node in nodes for x in HOLDINGS]
            with self.subTest(whole=whole, asked_for=asked_for):
                self.assertEqual([read_fraction(answer) for answer in told], expected)

    def test_more_digits_than_18(self):
        longest = 0
        for whole, asked_for in made_cases():
            told = told_least(whole, asked_for, 0, 0, 999983)
            longest = max(longest, len(told.split("/")[0].lstrip("-")))
            self.assertEqual(told, text(Fraction(told)))
        self.assertGreater(longest, 18)

    def test_each_register_has_its_own(self):
        calls = [tree(*EXAMPLE_TREE)] + [claim(r, [r, r], [0, 0]) for r in (0, 1, 2)]
        for r in (0, 1, 2):
            self.assertEqual(read_fraction(ask_last(*calls, least(r, 0, 0, 0))), f"{r}/1")


class Refused(unittest.TestCase):
    BEFORE = [tree(*EXAMPLE_TREE), claim(0, [1, 2], [3, 4])]

    def test_registers(self):
        for r in (-1, 3, FAR, -FAR):
            check_refused(self, self.BEFORE, least(r, 0, 0, 0), -1)
        check_refused(self, self.BEFORE, least(1, 0, 0, 0), -2)

    def test_no_such_node(self):
        for i, j in ((-1, 0), (0, -1), (0, 1), (1, 2), (2, 0), (2, 2), (-1, -1), (FAR, 0), (0, FAR), (1, -FAR)):
            check_refused(self, self.BEFORE, least(0, i, j, 0), -3)

    def test_holding(self):
        for x in (1000001, -1000001, FAR, -FAR):
            check_refused(self, self.BEFORE, least(0, 0, 0, x), -4)
            check_refused(self, self.BEFORE, least(0, 1, 1, x), -4)

    def test_order(self):
        self.assertEqual(ask(least(3, 9, 9, FAR)), [[-7]])
        self.assertEqual(ask_last(*self.BEFORE, least(3, 9, 9, FAR)), [-1])
        self.assertEqual(ask_last(*self.BEFORE, least(2, 9, 9, FAR)), [-2])
        self.assertEqual(ask_last(*self.BEFORE, least(0, 9, 9, FAR)), [-3])


if __name__ == "__main__":
    unittest.main()
