"""Promise 11: enough."""

import unittest
from fractions import Fraction

from tests.helper import EXAMPLE_TREE, FAR, ask, ask_last, check_refused, check_unchanged, claim, enough, least
from tests.helper import made_cases, made_claim, made_tree, read_fraction, tree

EXAMPLE_CLAIM = ([0, 0], [0, 1])


def told_enough(whole, asked_for, x, num, den):
    return ask_last(tree(*whole), claim(0, *asked_for), enough(0, x, num, den))


class Enough(unittest.TestCase):
    def check(self, whole, asked_for, x, needed):
        """At just the least cash, a little below and above it, and far from it; needed is its fraction."""
        found = read_fraction(ask_last(tree(*whole), claim(0, *asked_for), least(0, 0, 0, x)))
        self.assertEqual(Fraction(found), needed)
        top, bottom = needed.numerator, needed.denominator
        times = min(1000000 // bottom, 999999 // max(1, abs(top)))
        self.assertEqual(told_enough(whole, asked_for, x, top, bottom), [1])
        self.assertEqual(told_enough(whole, asked_for, x, top * times, bottom * times), [1])
        self.assertEqual(told_enough(whole, asked_for, x, top * times - 1, bottom * times), [0])
        self.assertEqual(told_enough(whole, asked_for, x, top * times + 1, bottom * times), [1])
        self.assertEqual(told_enough(whole, asked_for, x, 1000000, 1), [1])
        self.assertEqual(told_enough(whole, asked_for, x, -1000000, 1), [0])

    def test_the_example(self):
        for x, needed in ((0, Fraction(115)), (1, Fraction(0)), (2, Fraction(-110)), (4, Fraction(-970, 3))):
            self.check(EXAMPLE_TREE, EXAMPLE_CLAIM, x, needed)

    def test_nothing_asked_for(self):
        self.check((1, 1, 1, [10] * 3, [10] * 3), ([0, 0], [0, 0]), 0, Fraction(0))

    def test_least_cash_that_is_no_whole_number(self):
        whole = (1, 6, 4, [1, 10, 10], [99, 10, 10])
        for cash in (1, -1, 2, 100, -100):
            self.check(whole, ([cash, cash], [0, 0]), 0, Fraction(2 * cash, 3))

    def test_num_and_den_not_in_lowest_terms(self):
        for num, den, expected in ((-220, 2, 1), (-221, 2, 0), (-219, 2, 1), (-330, 3, 1), (-1000000, 9090, 0),
                                   (-1000000, 9091, 1), (0, 1000000, 1)):
            self.assertEqual(told_enough(EXAMPLE_TREE, EXAMPLE_CLAIM, 2, num, den), [expected])

    def test_at_the_first_node_alone(self):
        whole = (1, 1, 1, [1, 10, 10], [99, 10, 10])
        for cash in ([0, 7], [7, 0], [7, 7]):
            self.check(whole, (cash, [0, 0]), 0, Fraction(7))

    def test_edges_that_are_taken(self):
        whole = (1, 1, 1, [1] * 3, [1] * 3)
        for x in (1000000, -1000000):
            for cash in (1000000, -1000000):
                needed = cash - x
                for num in (1000000, 999999, -999999, -1000000):
                    self.assertEqual(told_enough(whole, ([cash] * 2, [0] * 2), x, num, 1), [int(needed <= num)])
        self.assertEqual(told_enough(whole, ([1] * 2, [0] * 2), 0, 1000000, 1000000), [1])
        self.assertEqual(told_enough(whole, ([1] * 2, [0] * 2), 0, 999999, 1000000), [0])

    def test_it_is_as_least_says(self):
        seen = set()
        for whole, asked_for in made_cases():
            begin = [tree(*whole), claim(0, *asked_for)]
            for x in (0, 7, -31, 1000000):
                needed = Fraction(read_fraction(ask_last(*begin, least(0, 0, 0, x))))
                near = int(needed)
                tries = [(near + k, 1) for k in (-1, 0, 1)] + [(top, 7) for top in (7 * near - 1, 7 * near + 1)]
                tries = [(num, den) for num, den in tries if abs(num) <= 1000000] + [(1000000, 3), (-1000000, 3)]
                answers = ask(*begin, *[enough(0, x, num, den) for num, den in tries])[2:]
                self.assertEqual(answers, [[int(needed <= Fraction(num, den))] for num, den in tries])
                seen |= {answer[0] for answer in answers[:-2]}
        self.assertEqual(seen, {0, 1})

    def test_each_register_has_its_own(self):
        calls = [tree(*EXAMPLE_TREE)] + [claim(r, [r, r], [0, 0]) for r in (0, 1, 2)]
        for r in (0, 1, 2):
            for num in (-1, 0, 1, 2):
                self.assertEqual(ask_last(*calls, enough(r, 0, num, 1)), [int(r <= num)])

    def test_nothing_is_changed(self):
        for n in (1, 2, 3, 4):
            before = [tree(*made_tree(n, n, 40)), claim(1, *made_claim(n, n, 1000))]
            check_unchanged(self, before, enough(1, 5, 1000000, 1))
            check_unchanged(self, before, enough(1, 5, -1000000, 1))


class Refused(unittest.TestCase):
    BEFORE = [tree(*EXAMPLE_TREE), claim(0, [1, 2], [3, 4])]

    def test_no_tree(self):
        check_refused(self, [], enough(0, 0, 0, 1), -7)

    def test_registers(self):
        for r in (-1, 3, FAR, -FAR):
            check_refused(self, self.BEFORE, enough(r, 0, 0, 1), -1)
        for r in (1, 2):
            check_refused(self, self.BEFORE, enough(r, 0, 0, 1), -2)

    def test_numbers(self):
        for den in (0, -1, 1000001, FAR, -FAR):
            check_refused(self, self.BEFORE, enough(0, 0, 0, den), -4)
        for wrong in (1000001, -1000001, FAR, -FAR):
            check_refused(self, self.BEFORE, enough(0, 0, wrong, 1), -4)
            check_refused(self, self.BEFORE, enough(0, wrong, 0, 1), -4)

    def test_order(self):
        self.assertEqual(ask(enough(3, FAR, FAR, 0)), [[-7]])
        self.assertEqual(ask_last(*self.BEFORE, enough(3, FAR, FAR, 0)), [-1])
        self.assertEqual(ask_last(*self.BEFORE, enough(2, FAR, FAR, 0)), [-2])
        self.assertEqual(ask_last(*self.BEFORE, enough(0, FAR, FAR, 0)), [-4])


if __name__ == "__main__":
    unittest.main()
