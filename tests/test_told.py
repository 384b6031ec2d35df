"""Promises 12 and 13: quotes and told."""

import unittest

from tests.helper import EXAMPLE_TREE, FAR, ask, ask_last, check_refused, check_unchanged, claim, made_claim, made_tree
from tests.helper import node_number, nodes_of, quotes, sum_of, told_of, tree, turn

TREE = tree(2, 1, 1, [5, 5, 5, 2, 2, 2], [6, 6, 6, 9, 9, 9])
FIRST = ([11, -12, 0], [1, 0, -3])
SECOND = ([5, 40, -7], [-2, 6, 30])


def answer_of(cash, units):
    return [len(cash)] + cash + [len(units)] + units


class Quotes(unittest.TestCase):
    def test_the_answer_number_by_number(self):
        self.assertEqual(ask_last(tree(*EXAMPLE_TREE), quotes(0)), [1, 90, 115])
        self.assertEqual(ask_last(tree(*EXAMPLE_TREE), quotes(1)), [2, 80, 80, 110, 130])

    def test_every_step(self):
        for n in (1, 2, 3, 4):
            for seed in range(5):
                whole = made_tree(seed, n, 900)
                for i in range(n + 1):
                    expected = [i + 1]
                    for j in range(i + 1):
                        expected += [whole[3][node_number(i, j)], whole[4][node_number(i, j)]]
                    self.assertEqual(ask_last(tree(*whole), quotes(i)), expected)

    def test_as_told_even_where_nothing_trades_so(self):
        # The row at (0, 0) goes from 70 to 80 alone.
        self.assertEqual(ask_last(tree(1, 1, 1, [1, 70, 80], [10000, 75, 80]), quotes(0)), [1, 1, 10000])

    def test_of_the_later_tree(self):
        self.assertEqual(ask_last(tree(*EXAMPLE_TREE), TREE, quotes(1)), [2, 5, 6, 5, 6])
        self.assertEqual(ask_last(TREE, tree(*EXAMPLE_TREE), quotes(2)), [-3])
        refused = tree(1, 1, 1, [8] * 3, [7] * 3)
        self.assertEqual(ask_last(tree(*EXAMPLE_TREE), refused, quotes(0)), [1, 90, 115])

    def test_nothing_is_changed(self):
        for i in range(3):
            check_unchanged(self, [TREE, claim(1, *FIRST)], quotes(i))

    def test_refused(self):
        check_refused(self, [], quotes(0), -7)
        for n in (1, 2, 3, 4):
            count = len(nodes_of(n))
            before = [tree(n, 1, 1, [7] * count, [7] * count), claim(0, [1] * (n + 1), [2] * (n + 1))]
            for i in (-1, n + 1, FAR, -FAR):
                check_refused(self, before, quotes(i), -3)

    def test_order(self):
        self.assertEqual(ask(quotes(-1)), [[-7]])
        self.assertEqual(ask(quotes(FAR)), [[-7]])


class Told(unittest.TestCase):
    def test_the_answer_number_by_number(self):
        self.assertEqual(ask_last(TREE, claim(0, *FIRST), told_of(0)), [3, 11, -12, 0, 3, 1, 0, -3])

    def test_behind_claim(self):
        for n in (1, 2, 3, 4):
            before = [tree(*made_tree(n, n, 40))]
            for r in (0, 1, 2):
                made = made_claim(r, n, 1000000)
                before.append(claim(r, *made))
                self.assertEqual(ask_last(*before, told_of(r)), answer_of(*made))
            for r in (0, 1, 2):
                self.assertEqual(ask_last(*before, told_of(r)), answer_of(*made_claim(r, n, 1000000)))
        self.assertEqual(ask_last(TREE, claim(1, *FIRST), claim(1, *SECOND), told_of(1)), answer_of(*SECOND))

    def test_behind_a_claim_that_was_refused(self):
        before = [TREE, claim(0, *FIRST)]
        self.assertEqual(ask_last(*before, claim(0, [FAR] * 3, [0] * 3), told_of(0)), answer_of(*FIRST))
        self.assertEqual(ask_last(*before, claim(1, [FAR] * 3, [0] * 3), told_of(1)), [-2])

    def test_behind_turn(self):
        turned = ([-11, 12, 0], [-1, 0, 3])
        for r in (0, 1, 2):
            for x in (0, 1, 2):
                before = [TREE, claim(x, *FIRST), turn(r, x)]
                self.assertEqual(ask_last(*before, told_of(r)), answer_of(*turned))
                self.assertEqual(ask_last(*before, told_of(x)), answer_of(*(turned if r == x else FIRST)))
        self.assertEqual(ask_last(TREE, claim(0, *FIRST), turn(0, 0), turn(0, 0), told_of(0)), answer_of(*FIRST))

    def test_behind_sum(self):
        together = ([16, 28, -7], [-1, 6, 27])
        for r in (0, 1, 2):
            before = [TREE, claim(0, *FIRST), claim(1, *SECOND), sum_of(r, 0, 1)]
            self.assertEqual(ask_last(*before, told_of(r)), answer_of(*together))
            self.assertEqual(ask_last(*before, told_of(0)), answer_of(*(together if r == 0 else FIRST)))
            self.assertEqual(ask_last(*before, told_of(1)), answer_of(*(together if r == 1 else SECOND)))

    def test_behind_a_sum_that_was_refused(self):
        great = ([1000000, 0, 0], [0, 0, -1000000])
        before = [TREE, claim(0, *great), sum_of(0, 0, 0), sum_of(1, 0, 0)]
        self.assertEqual(ask_last(*before, told_of(0)), answer_of(*great))
        self.assertEqual(ask_last(*before, told_of(1)), [-2])

    def test_a_later_change_of_another_register_is_not_seen(self):
        before = [TREE, claim(0, *FIRST), turn(1, 0), sum_of(2, 0, 1), turn(0, 0), claim(1, *SECOND)]
        self.assertEqual(ask_last(*before, told_of(2)), answer_of([0] * 3, [0] * 3))

    def test_behind_a_new_tree(self):
        filled = [TREE] + [claim(r, *FIRST) for r in (0, 1, 2)]
        for r in (0, 1, 2):
            self.assertEqual(ask_last(*filled, TREE, told_of(r)), [-2])
            self.assertEqual(ask_last(*filled, tree(*EXAMPLE_TREE), told_of(r)), [-2])
            # A tree that's refused leaves the claims there.
            self.assertEqual(ask_last(*filled, tree(0, 1, 1, [], []), told_of(r)), answer_of(*FIRST))
        self.assertEqual(ask_last(*filled, tree(*EXAMPLE_TREE), claim(1, [4, 5], [6, 7]), told_of(1)), [2, 4, 5, 2, 6, 7])

    def test_nothing_is_changed(self):
        check_unchanged(self, [TREE, claim(0, *FIRST), claim(1, *SECOND)], told_of(0))
        answers = ask(TREE, claim(0, *FIRST), told_of(0), told_of(0), told_of(0))
        self.assertEqual(answers[2:], [answer_of(*FIRST)] * 3)

    def test_refused(self):
        check_refused(self, [], told_of(0), -7)
        before = [TREE, claim(0, *FIRST)]
        for r in (-1, 3, FAR, -FAR):
            check_refused(self, before, told_of(r), -1)
        for r in (1, 2):
            check_refused(self, before, told_of(r), -2)

    def test_order(self):
        self.assertEqual(ask(told_of(3)), [[-7]])
        self.assertEqual(ask_last(TREE, told_of(3)), [-1])


if __name__ == "__main__":
    unittest.main()
