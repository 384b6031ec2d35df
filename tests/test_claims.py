"""Promises 2, 3 and 4: claim, turn, sum; and the refusals that go ahead of every call's own."""

import unittest

from tests.helper import EXAMPLE_TREE, FAR, ask, ask_last, check_refused, claim, enough, held_on, least, made_claim
from tests.helper import made_tree, plan, points, quotes, range_of, read_points, seen_behind, sum_of, told_of, tree
from tests.helper import turn, walk

# Bids are below asks at the end, so that the two points of a node there tell its cash and its units.
TREE = tree(2, 1, 1, [5, 5, 5, 2, 2, 2], [6, 6, 6, 9, 9, 9])
FIRST = ([11, -12, 0], [1, 0, -3])
SECOND = ([5, 40, -7], [-2, 6, 30])


def told_claim(r, *calls):
    """The cash and the units in r behind the calls."""
    cash = []
    units = []
    for j in range(3):
        ends = read_points(ask_last(TREE, *calls, points(r, 2, j)))
        low, high = [int(v.removesuffix("/1")) for q, v in ends]
        units.append((high - low) // 7)
        cash.append(low - 2 * units[-1])
    return cash, units


def is_empty(r, *calls):
    return ask_last(TREE, *calls, points(r, 2, 0)) == [-2]


class Claim(unittest.TestCase):
    def test_it_is_in_its_register_alone(self):
        for r in (0, 1, 2):
            self.assertEqual(ask(TREE, claim(r, *FIRST))[-1], [0])
            self.assertEqual(told_claim(r, claim(r, *FIRST)), FIRST)
            for other in {0, 1, 2} - {r}:
                self.assertTrue(is_empty(other, claim(r, *FIRST)))

    def test_registers_are_empty_at_the_beginning(self):
        for r in (0, 1, 2):
            self.assertTrue(is_empty(r))

    def test_over_another(self):
        self.assertEqual(told_claim(1, claim(1, *FIRST), claim(1, *SECOND)), SECOND)
        self.assertEqual(told_claim(0, claim(0, *FIRST), claim(1, *SECOND)), FIRST)

    def test_edges_that_are_taken(self):
        edge = ([1000000, -1000000, 0], [-1000000, 1000000, 0])
        self.assertEqual(told_claim(2, claim(2, *edge)), edge)

    def test_for_trees_of_all_lengths(self):
        for n in (1, 2, 3, 4):
            whole = tree(*made_tree(n, n, 40))
            self.assertEqual(ask_last(whole, claim(0, *made_claim(n, n, 9))), [0])
            for count in (0, n, n + 2, 16):
                check_refused(self, [whole], claim(0, [1] * count, [1] * (n + 1)), -3)
                check_refused(self, [whole], claim(0, [1] * (n + 1), [1] * count), -3)

    def test_refused(self):
        before = [TREE, claim(0, *FIRST)]
        for r in (-1, 3, FAR, -FAR):
            check_refused(self, before, claim(r, *SECOND), -1)
        for at in range(3):
            for wrong in (1000001, -1000001, FAR, -FAR):
                numbers = [0, 0, 0]
                numbers[at] = wrong
                check_refused(self, before, claim(0, numbers, [0, 0, 0]), -4)
                check_refused(self, before, claim(0, [0, 0, 0], numbers), -4)

    def test_order(self):
        self.assertEqual(ask(claim(3, [], [])), [[-7]])
        self.assertEqual(ask_last(TREE, claim(3, [], [])), [-1])
        self.assertEqual(ask_last(TREE, claim(-1, [FAR] * 3, [0] * 3)), [-1])
        self.assertEqual(ask_last(TREE, claim(0, [FAR] * 2, [0] * 3)), [-3])
        self.assertEqual(ask_last(TREE, claim(0, [FAR] * 3, [0] * 4)), [-3])


class Turn(unittest.TestCase):
    def test_all_numbers_are_turned(self):
        for r in (0, 1, 2):
            for x in (0, 1, 2):
                told = told_claim(r, claim(x, *FIRST), turn(r, x))
                self.assertEqual(told, ([-11, 12, 0], [-1, 0, 3]))

    def test_what_is_read_stays(self):
        self.assertEqual(told_claim(0, claim(0, *FIRST), turn(1, 0)), FIRST)
        self.assertEqual(told_claim(0, claim(0, *FIRST), turn(1, 0), turn(1, 1)), FIRST)
        self.assertEqual(told_claim(0, claim(0, *FIRST), turn(1, 0), claim(1, *SECOND)), FIRST)

    def test_into_the_register_that_is_read(self):
        self.assertEqual(ask_last(TREE, claim(0, *FIRST), turn(0, 0)), [0])
        self.assertEqual(told_claim(0, claim(0, *FIRST), turn(0, 0), turn(0, 0)), FIRST)

    def test_over_another(self):
        told = told_claim(2, claim(0, *FIRST), claim(2, *SECOND), turn(2, 0))
        self.assertEqual(told, ([-11, 12, 0], [-1, 0, 3]))

    def test_edges_stay_within_the_bounds(self):
        edge = ([1000000, -1000000, 0], [-1000000, 1000000, 0])
        turned = ([-1000000, 1000000, 0], [1000000, -1000000, 0])
        self.assertEqual(told_claim(0, claim(0, *edge), turn(0, 0)), turned)

    def test_refused(self):
        before = [TREE, claim(0, *FIRST)]
        for wrong in (-1, 3, FAR, -FAR):
            check_refused(self, before, turn(wrong, 0), -1)
            check_refused(self, before, turn(0, wrong), -1)
        check_refused(self, before, turn(0, 1), -2)
        check_refused(self, before, turn(1, 1), -2)

    def test_order(self):
        self.assertEqual(ask(turn(3, 3)), [[-7]])
        self.assertEqual(ask(turn(0, 0)), [[-7]])
        self.assertEqual(ask_last(TREE, turn(3, 0)), [-1])
        self.assertEqual(ask_last(TREE, turn(0, 3)), [-1])


class Sum(unittest.TestCase):
    SUM = ([16, 28, -7], [-1, 6, 27])

    def test_both_together(self):
        for r in (0, 1, 2):
            for x, y in ((0, 1), (1, 2), (2, 0), (1, 0)):
                calls = [claim(x, *FIRST), claim(y, *SECOND), sum_of(r, x, y)]
                self.assertEqual(ask_last(TREE, *calls), [0])
                self.assertEqual(told_claim(r, *calls), self.SUM)

    def test_one_register_twice(self):
        twice = ([22, -24, 0], [2, 0, -6])
        self.assertEqual(told_claim(0, claim(0, *FIRST), sum_of(0, 0, 0)), twice)
        self.assertEqual(told_claim(1, claim(0, *FIRST), sum_of(1, 0, 0)), twice)
        self.assertEqual(told_claim(0, claim(0, *FIRST), sum_of(1, 0, 0)), FIRST)

    def test_what_is_read_stays(self):
        calls = [claim(0, *FIRST), claim(1, *SECOND), sum_of(2, 0, 1)]
        self.assertEqual(told_claim(0, *calls), FIRST)
        self.assertEqual(told_claim(1, *calls), SECOND)
        self.assertEqual(told_claim(1, *calls, sum_of(0, 0, 1)), SECOND)

    def test_edges_that_are_taken(self):
        half = ([500000, -500000, 0], [0, 500000, -500000])
        whole = ([1000000, -1000000, 0], [0, 1000000, -1000000])
        self.assertEqual(told_claim(0, claim(0, *half), sum_of(0, 0, 0)), whole)

    def test_refused(self):
        before = [TREE, claim(0, *FIRST), claim(1, *SECOND)]
        for wrong in (-1, 3, FAR, -FAR):
            check_refused(self, before, sum_of(wrong, 0, 1), -1)
            check_refused(self, before, sum_of(0, wrong, 1), -1)
            check_refused(self, before, sum_of(0, 0, wrong), -1)
        check_refused(self, before, sum_of(0, 2, 1), -2)
        check_refused(self, before, sum_of(0, 0, 2), -2)
        check_refused(self, before, sum_of(2, 2, 0), -2)

    def test_refused_beyond_the_bounds(self):
        for at in range(3):
            for side in (1, -1):
                great = [0, 0, 0]
                great[at] = 1000000 * side
                small = [0, 0, 0]
                small[at] = side
                none = [0, 0, 0]
                for one, other in (((great, none), (small, none)), ((none, great), (none, small))):
                    before = [TREE, claim(0, *one), claim(1, *other)]
                    check_refused(self, before, sum_of(0, 0, 1), -4)
                    check_refused(self, before, sum_of(2, 1, 0), -4)

    def test_order_register_by_register(self):
        self.assertEqual(ask(sum_of(3, 3, 3)), [[-7]])
        one = [TREE, claim(0, *FIRST)]
        self.assertEqual(ask_last(*one, sum_of(3, 1, 0)), [-1])
        self.assertEqual(ask_last(*one, sum_of(0, 1, 3)), [-2])
        self.assertEqual(ask_last(*one, sum_of(0, 3, 1)), [-1])
        great = ([1000000] * 3, [0] * 3)
        self.assertEqual(ask_last(TREE, claim(0, *great), sum_of(1, 0, 1)), [-2])
        self.assertEqual(ask_last(TREE, claim(0, *great), sum_of(3, 0, 0)), [-1])


class NoTree(unittest.TestCase):
    CALLS = (claim(0, [0, 0], [0, 0]), turn(0, 0), sum_of(0, 0, 0), least(0, 0, 0, 0), points(0, 0, 0), range_of(0, 0),
             plan(0, 0, 0, 0, 1), walk(0, 0, [0]), held_on(0, 0, [0]), enough(0, 0, 0, 1), quotes(0), told_of(0))

    def test_each_call_is_refused(self):
        for call in self.CALLS:
            check_refused(self, [], call, -7)

    def test_also_behind_a_tree_that_was_refused(self):
        for call in self.CALLS:
            check_refused(self, [tree(1, 1, 1, [8] * 3, [7] * 3)], call, -7)

    def test_ahead_of_all_others(self):
        wrong = (claim(9, [], []), turn(9, 9), sum_of(9, 9, 9), least(9, 9, 9, FAR), points(9, 9, 9), range_of(9, 9),
                 plan(9, 9, 9, FAR, 0), walk(9, FAR, []), held_on(9, FAR, []), enough(9, FAR, FAR, 0), quotes(9), told_of(9))
        for call in wrong:
            self.assertEqual(ask(call), [[-7]])

    def test_a_refused_claim_behind_it_is_not_there(self):
        call = claim(0, [0, 0], [0, 0])
        self.assertEqual(seen_behind(call, tree(*EXAMPLE_TREE)), seen_behind(tree(*EXAMPLE_TREE)))


if __name__ == "__main__":
    unittest.main()
