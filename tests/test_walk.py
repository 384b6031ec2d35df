"""Promises 9 and 10: walk and held."""

import unittest
from fractions import Fraction

from tests.helper import EXAMPLE_TREE, FAR, ask, ask_last, check_refused, check_unchanged, claim, document_nodes
from tests.helper import document_walk, held_on, least, made_cases, made_claim, made_tree, nodes_of, plan, read_fraction
from tests.helper import read_held, text, tree, walk, ways_of

EXAMPLE_CLAIM = ([0, 0], [0, 1])
HOLDINGS = (0, 2, -13, 1000000, -1000000)


def told_walk(whole, asked_for, x, way):
    return read_fraction(ask_last(tree(*whole), claim(0, *asked_for), walk(0, x, way)))


def told_held(whole, asked_for, x, way):
    return read_held(ask_last(tree(*whole), claim(0, *asked_for), held_on(0, x, way)))


def every_walk(n):
    return [(x, way) for x in HOLDINGS for way in ways_of(n)]


class Example(unittest.TestCase):
    def test_whole(self):
        calls = [tree(*EXAMPLE_TREE), claim(0, *EXAMPLE_CLAIM), least(0, 0, 0, 2), plan(0, 0, 0, 2, 1),
                 walk(0, 2, [0]), walk(0, 2, [1])]
        answers = ask(*calls)
        self.assertEqual(answers[:2], [[3], [0]])
        self.assertEqual([read_fraction(answer) for answer in answers[2:]], ["-110/1", "2/1", "50/1", "0/1"])

    def test_number_by_number(self):
        before = [tree(*EXAMPLE_TREE), claim(0, *EXAMPLE_CLAIM)]
        self.assertEqual(ask_last(*before, walk(0, 2, [0])), [0, 53, 48, 47, 49])
        self.assertEqual(ask_last(*before, walk(0, 2, [1])), [0, 48, 47, 49])
        self.assertEqual(ask_last(*before, held_on(0, 2, [1])), [1, 3, 50, 47, 49])

    def test_held(self):
        for x, expected in ((0, "1/1"), (1, "1/1"), (2, "2/1"), (3, "3/1"), (4, "11/3")):
            for way in ([0], [1]):
                self.assertEqual(told_held(EXAMPLE_TREE, EXAMPLE_CLAIM, x, way), [expected])

    def test_other_holdings(self):
        # 0: 115 cash buys one unit, which is sold for 80 or handed over.
        self.assertEqual(told_walk(EXAMPLE_TREE, EXAMPLE_CLAIM, 0, [0]), "80/1")
        self.assertEqual(told_walk(EXAMPLE_TREE, EXAMPLE_CLAIM, 0, [1]), "0/1")
        # 4: a third of a unit is sold for 30, and 11/3 are left with -880/3 of cash.
        self.assertEqual(told_walk(EXAMPLE_TREE, EXAMPLE_CLAIM, 4, [0]), "0/1")
        self.assertEqual(told_walk(EXAMPLE_TREE, EXAMPLE_CLAIM, 4, [1]), "0/1")


class ByHand(unittest.TestCase):
    def test_cash_grows_in_each_step(self):
        # Nothing is traded; 4 cash are owed in one way, and 1 cash at the beginning grows to 4.
        whole = (2, 2, 1, [1] * 3 + [7] * 3, [99] * 3 + [7] * 3)
        for way, expected in (([0, 0], "0/1"), ([0, 1], "3/1"), ([1, 0], "3/1"), ([1, 1], "4/1")):
            self.assertEqual(told_walk(whole, ([4, 1, 0], [0, 0, 0]), 0, way), expected)
            self.assertEqual(told_held(whole, ([4, 1, 0], [0, 0, 0]), 0, way), ["0/1", "0/1"])

    def test_the_node_is_counted_by_the_ones_of_the_way(self):
        whole = (3, 1, 1, [1] * 6 + [7] * 4, [99] * 6 + [7] * 4)
        asked_for = ([-1, -20, -300, -4000], [0] * 4)
        for way in ways_of(3):
            left = (1, 20, 300, 4000)[sum(way)] - 1
            self.assertEqual(told_walk(whole, asked_for, 0, way), f"{left}/1")

    def test_the_claim_is_met_at_bid_or_ask(self):
        # From 10 cash to 12 a unit: 2 units too few cost 24, 3 too many bring 30.
        whole = (1, 1, 1, [1, 10, 10], [99, 12, 12])
        asked_for = ([0, 0], [5, 0])
        self.assertEqual(ask_last(tree(*whole), claim(0, *asked_for), plan(0, 0, 0, 3, 1)), [0, 51, 47, 49])
        self.assertEqual(told_walk(whole, asked_for, 3, [0]), "0/1")
        self.assertEqual(told_walk(whole, asked_for, 3, [1]), "54/1")

    def test_claims_of_what_is_got(self):
        # One begins with -5 cash and gets 5, or 3 and a unit that's sold for 10.
        whole = (1, 1, 1, [10] * 3, [10] * 3)
        self.assertEqual(told_walk(whole, ([-5, -3], [0, -1]), 0, [0]), "0/1")
        self.assertEqual(told_walk(whole, ([-5, -3], [0, -1]), 0, [1]), "8/1")

    def test_an_earlier_trade_is_kept_at_the_next_node(self):
        whole = (2, 1, 1, [50, 30, 70, 20, 50, 90], [50, 30, 70, 20, 50, 90])
        asked_for = ([0, 30, 10], [0, 0, 0])
        self.assertEqual(told_held(whole, asked_for, 8, [0, 1]), ["1/4", "1/1"])
        self.assertEqual(told_held(whole, asked_for, -8, [1, 0]), ["1/4", "-1/2"])
        for way in ways_of(2):
            self.assertEqual(told_walk(whole, asked_for, 8, way), "0/1")

    def test_each_register_has_its_own(self):
        calls = [tree(*EXAMPLE_TREE)] + [claim(r, [0, r], [0, 0]) for r in (0, 1, 2)]
        for r in (0, 1, 2):
            for way in ([0], [1]):
                rows, found = document_nodes(*EXAMPLE_TREE, [0, r], [0, 0])
                left, held = document_walk(EXAMPLE_TREE, ([0, r], [0, 0]), rows, found, 0, way)
                self.assertEqual(read_fraction(ask_last(*calls, walk(r, 0, way))), text(left))
                self.assertEqual(read_held(ask_last(*calls, held_on(r, 0, way))), [text(x) for x in held])

    def test_nothing_is_changed(self):
        for n in (1, 2, 3, 4):
            before = [tree(*made_tree(n, n, 40)), claim(0, *made_claim(n, n, 1000)), claim(2, *made_claim(9, n, 1000))]
            for way in ways_of(n)[::3]:
                check_unchanged(self, before, walk(2, 5, way))
                check_unchanged(self, before, held_on(2, 5, way))


class EveryWay(unittest.TestCase):
    def test_the_cases_are_of_each_sort(self):
        sorts = {(whole[0], whole[1] > whole[2], whole[3] == whole[4]) for whole, asked_for in made_cases()}
        for n in (1, 2, 3, 4):
            for grows in (True, False):
                for equal in (True, False):
                    self.assertIn((n, grows, equal), sorts)

    def test_against_the_words_of_the_document(self):
        for whole, asked_for in made_cases():
            rows, found = document_nodes(*whole, *asked_for)
            walks = every_walk(whole[0])
            begin = [tree(*whole), claim(0, *asked_for)]
            lefts = ask(*begin, *[walk(0, x, way) for x, way in walks])[2:]
            helds = ask(*begin, *[held_on(0, x, way) for x, way in walks])[2:]
            for (x, way), left, held in zip(walks, lefts, helds):
                with self.subTest(whole=whole, asked_for=asked_for, x=x, way=way):
                    expected = document_walk(whole, asked_for, rows, found, x, way)
                    self.assertEqual(read_fraction(left), text(expected[0]))
                    self.assertEqual(read_held(held), [text(units) for units in expected[1]])

    def test_never_below_0_and_0_on_some_way(self):
        above = 0
        for whole, asked_for in made_cases():
            walks = every_walk(whole[0])
            answers = ask(tree(*whole), claim(0, *asked_for), *[walk(0, x, way) for x, way in walks])[2:]
            for x in HOLDINGS:
                lefts = [Fraction(read_fraction(answer)) for (held, way), answer in zip(walks, answers) if held == x]
                # With less cash some way would fail, so on some way nothing is left.
                self.assertEqual(min(lefts), 0)
                above += max(lefts) > 0
        self.assertGreater(above, 100)

    def test_held_tells_what_plan_says_node_by_node(self):
        asked = 0
        for whole, asked_for in made_cases():
            begin = [tree(*whole), claim(0, *asked_for)]
            for x, way in every_walk(whole[0])[::3]:
                held = [Fraction(units) for units in read_held(ask_last(*begin, held_on(0, x, way)))]
                self.assertEqual(len(held), whole[0])
                before = [Fraction(x)] + held
                for k in range(whole[0]):
                    # plan can't be asked of longer fractions.
                    if before[k].denominator > 1000000 or abs(before[k].numerator) > 1000000:
                        continue
                    call = plan(0, k, sum(way[:k]), before[k].numerator, before[k].denominator)
                    self.assertEqual(read_fraction(ask_last(*begin, call)), text(held[k]))
                    asked += k > 0
        self.assertGreater(asked, 200)

    def test_what_is_held_does_not_hang_on_what_comes(self):
        for whole, asked_for in made_cases()[::5]:
            n = whole[0]
            held = {tuple(way): told_held(whole, asked_for, 3, way) for way in ways_of(n)}
            for one in held:
                for other in held:
                    same = [k for k in range(n) if one[:k] == other[:k]]
                    self.assertEqual([held[one][k] for k in same], [held[other][k] for k in same])

    def test_lowest_terms_and_more_digits_than_18(self):
        longest = 0
        for whole, asked_for in made_cases():
            for way in ways_of(whole[0])[::5]:
                left = told_walk(whole, asked_for, 999983, way)
                longest = max(longest, len(left.split("/")[0]))
                self.assertEqual(left, text(Fraction(left)))
        self.assertGreater(longest, 18)


class Refused(unittest.TestCase):
    BEFORE = [tree(*EXAMPLE_TREE), claim(0, [1, 2], [3, 4])]

    def check(self, before, r, x, way, refusal):
        check_refused(self, before, walk(r, x, way), refusal)
        check_refused(self, before, held_on(r, x, way), refusal)

    def check_answer(self, before, r, x, way, refusal):
        self.assertEqual(ask_last(*before, walk(r, x, way)), [refusal])
        self.assertEqual(ask_last(*before, held_on(r, x, way)), [refusal])

    def test_no_tree(self):
        self.check([], 0, 0, [0], -7)

    def test_registers(self):
        for r in (-1, 3, FAR, -FAR):
            self.check(self.BEFORE, r, 0, [0], -1)
        for r in (1, 2):
            self.check(self.BEFORE, r, 0, [0], -2)

    def test_no_way(self):
        for way in ([], [0, 0], [1, 0], [2], [-1], [FAR], [-FAR], [0] * 16):
            self.check(self.BEFORE, 0, 0, way, -3)

    def test_no_way_of_longer_trees(self):
        for n in (2, 3, 4):
            count = len(nodes_of(n))
            before = [tree(n, 1, 1, [7] * count, [7] * count), claim(0, [0] * (n + 1), [0] * (n + 1))]
            for length in (0, n - 1, n + 1, 16):
                self.check_answer(before, 0, 0, [1] * length, -3)
            for at in range(n):
                for wrong in (2, -1, FAR):
                    way = [1] * n
                    way[at] = wrong
                    self.check_answer(before, 0, 0, way, -3)
            check_unchanged(self, before, walk(0, 0, [1] * n))

    def test_holding(self):
        for x in (1000001, -1000001, FAR, -FAR):
            self.check(self.BEFORE, 0, x, [1], -4)

    def test_edges_of_the_holding_that_are_taken(self):
        for x in (1000000, -1000000):
            check_unchanged(self, self.BEFORE, walk(0, x, [1]))
            check_unchanged(self, self.BEFORE, held_on(0, x, [1]))

    def test_order(self):
        self.check_answer([], 3, FAR, [], -7)
        self.check_answer(self.BEFORE, 3, FAR, [], -1)
        self.check_answer(self.BEFORE, 3, 0, [2], -1)
        self.check_answer(self.BEFORE, 2, FAR, [], -2)
        self.check_answer(self.BEFORE, 2, FAR, [0], -2)
        self.check_answer(self.BEFORE, 0, FAR, [], -3)
        self.check_answer(self.BEFORE, 0, FAR, [2], -3)


if __name__ == "__main__":
    unittest.main()
