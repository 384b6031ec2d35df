"""Promises 6 and 7: points and range."""

import unittest

from tests.helper import EXAMPLE_TREE, FAR, ask, ask_last, check_refused, claim, document_nodes, fractions_of
from tests.helper import made_cases, nodes_of, points, range_of, read_counted, read_points, spans_of, text, tree


def told_points(whole, asked_for, i, j):
    return read_points(ask_last(tree(*whole), claim(0, *asked_for), points(0, i, j)))


def told_range(whole, i, j):
    answer = ask_last(tree(*whole), range_of(i, j))
    assert answer[0] == 0
    return read_counted(answer[1:])


class LastStep(unittest.TestCase):
    def test_bid_and_ask(self):
        self.assertEqual(told_points(EXAMPLE_TREE, ([5, -7], [2, -3]), 1, 1), [("110/1", "-337/1"), ("130/1", "-397/1")])

    def test_one_point_if_they_are_equal(self):
        self.assertEqual(told_points(EXAMPLE_TREE, ([5, -7], [2, -3]), 1, 0), [("80/1", "165/1")])

    def test_by_its_own_cash_and_units(self):
        whole = (2, 1, 1, [5, 5, 5, 2, 3, 4], [6, 6, 6, 9, 9, 9])
        asked_for = ([10, 20, 30], [1, 0, -1])
        self.assertEqual(told_points(whole, asked_for, 2, 0), [("2/1", "12/1"), ("9/1", "19/1")])
        self.assertEqual(told_points(whole, asked_for, 2, 1), [("3/1", "20/1"), ("9/1", "20/1")])
        self.assertEqual(told_points(whole, asked_for, 2, 2), [("4/1", "26/1"), ("9/1", "21/1")])


class Before(unittest.TestCase):
    def test_the_example(self):
        told = told_points(EXAMPLE_TREE, ([0, 0], [0, 1]), 0, 0)
        # The row goes 80 0, 110 110, 130 130.
        self.assertEqual(told, [("90/1", "110/3"), ("110/1", "110/1"), ("115/1", "115/1")])

    def test_the_answer_number_by_number(self):
        answer = ask_last(tree(*EXAMPLE_TREE), claim(0, [0, 0], [0, 1]), points(0, 1, 0))
        self.assertEqual(answer, [1, 4, 56, 48, 47, 49, 3, 48, 47, 49])

    def test_points_of_one_q_the_greatest_v_is_taken(self):
        whole = (1, 1, 1, [10, 10, 10], [30, 20, 30])
        self.assertEqual(told_points(whole, ([0, 5], [0, 0]), 0, 0), [("10/1", "5/1"), ("30/1", "5/1")])
        self.assertEqual(told_points(whole, ([7, 5], [0, 0]), 0, 0), [("10/1", "7/1"), ("20/1", "7/1"), ("30/1", "5/1")])
        whole = (1, 1, 1, [10, 10, 20], [30, 30, 30])
        self.assertEqual(told_points(whole, ([7, 5], [0, 0]), 0, 0), [("10/1", "7/1"), ("30/1", "7/1")])
        self.assertEqual(told_points(whole, ([5, 7], [0, 0]), 0, 0), [("10/1", "5/1"), ("20/1", "7/1"), ("30/1", "7/1")])

    def test_all_points_of_one_q(self):
        whole = (1, 1, 1, [5, 10, 10], [30, 10, 10])
        for cash in ([3, 8], [8, 3], [8, 8]):
            self.assertEqual(told_points(whole, (cash, [0, 0]), 0, 0), [("10/1", "8/1")])

    def test_points_on_one_line_are_left_out(self):
        whole = (1, 1, 1, [10, 10, 20], [40, 30, 40])
        self.assertEqual(told_points(whole, ([1, 1], [2, 2]), 0, 0), [("10/1", "21/1"), ("40/1", "81/1")])

    def test_a_point_below_a_line_is_left_out(self):
        whole = (2, 1, 1, [1, 1, 1, 10, 20, 30], [99, 99, 99, 10, 20, 30])
        self.assertEqual(told_points(whole, ([8, 3, 8], [0] * 3), 0, 0), [("10/1", "8/1"), ("30/1", "8/1")])
        self.assertEqual(told_points(whole, ([8, 9, 8], [0] * 3), 0, 0),
                         [("10/1", "8/1"), ("20/1", "9/1"), ("30/1", "8/1")])

    def test_a_single_point_where_the_row_is_touched(self):
        for bid, asked, q, v in ((80, 90, "80/1", "6/1"), (60, 70, "70/1", "4/1"), (75, 75, "75/1", "5/1")):
            whole = (1, 1, 1, [bid, 70, 80], [asked, 70, 80])
            self.assertEqual(told_points(whole, ([4, 6], [0, 0]), 0, 0), [(q, v)])
            self.assertEqual(told_range(whole, 0, 0), [q, q])

    def test_a_point_of_the_row_at_the_bid_or_the_ask_stands_once(self):
        whole = (2, 1, 1, [20, 1, 1, 10, 20, 30], [25, 99, 99, 10, 20, 30])
        self.assertEqual(told_points(whole, ([0, 9, 0], [0] * 3), 0, 0), [("20/1", "9/1"), ("25/1", "9/2")])
        whole = (2, 1, 1, [15, 1, 1, 10, 20, 30], [20, 99, 99, 10, 20, 30])
        self.assertEqual(told_points(whole, ([0, 9, 0], [0] * 3), 0, 0), [("15/1", "9/2"), ("20/1", "9/1")])
        whole = (2, 1, 1, [20, 1, 1, 10, 20, 30], [20, 99, 99, 10, 20, 30])
        self.assertEqual(told_points(whole, ([0, 9, 0], [0] * 3), 0, 0), [("20/1", "9/1")])

    def test_cash_that_grows(self):
        whole = (1, 3, 2, [1, 10, 20], [99, 10, 20])
        self.assertEqual(told_points(whole, ([1, -2], [0, 0]), 0, 0), [("20/3", "2/3"), ("40/3", "-4/3")])
        whole = (2, 3, 2, [1] * 3 + [10, 10, 20], [99] * 3 + [10, 10, 20])
        self.assertEqual(told_points(whole, ([1, 1, -2], [0] * 3), 0, 0), [("40/9", "4/9"), ("80/9", "-8/9")])

    def test_growth_that_can_be_cut_down_is_the_same(self):
        bids = [1, 10, 20]
        asks = [99, 15, 20]
        for one, other in (((1, 1), (100, 100)), ((3, 2), (99, 66))):
            told = told_points((1, *one, bids, asks), ([1, -2], [5, 6]), 0, 0)
            self.assertEqual(told, told_points((1, *other, bids, asks), ([1, -2], [5, 6]), 0, 0))

    def test_more_digits_than_18(self):
        bids = [4896, 4383, 5345, 3420, 4828, 6325, 2827, 4038, 5842, 7185, 2005, 3582, 4800, 6424, 7690]
        asks = [5296, 4423, 5745, 3820, 4868, 6725, 2827, 4438, 5842, 7185, 2005, 3582, 4802, 6424, 7690]
        whole = (4, 99, 97, bids, asks)
        cash, units = [-594335, -199092, -56059, 985818, 464158], [-367739, -563271, 95371, 808747, -434386]
        told = told_points(whole, (cash, units), 0, 0)
        tops = [v.split("/")[0].lstrip("-") for q, v in told]
        bottoms = [v.split("/")[1] for q, v in told]
        self.assertGreater(max(len(top) for top in tops), 18)
        self.assertGreater(max(len(bottom) for bottom in bottoms), 18)
        self.assertEqual(fractions_of(told), document_nodes(*whole, cash, units)[1][0, 0])

    def test_against_the_words_of_the_document(self):
        counts = set()
        for whole, asked_for in made_cases():
            nodes = nodes_of(whole[0])
            expected = document_nodes(*whole, *asked_for)[1]
            told = ask(tree(*whole), claim(0, *asked_for), *[points(0, i, j) for i, j in nodes])[2:]
            for node, answer in zip(nodes, told):
                with self.subTest(whole=whole, asked_for=asked_for, node=node):
                    self.assertEqual(read_points(answer), [(text(q), text(v)) for q, v in expected[node]])
                    counts.add(answer[0])
        self.assertTrue({1, 2, 3, 4, 5} <= counts)

    def test_each_register_has_its_own(self):
        calls = [tree(*EXAMPLE_TREE)] + [claim(r, [r, r], [0, 0]) for r in (0, 1, 2)]
        for r in (0, 1, 2):
            self.assertEqual(read_points(ask_last(*calls, points(r, 0, 0))), [("90/1", f"{r}/1"), ("115/1", f"{r}/1")])


class Range(unittest.TestCase):
    def test_the_answer_number_by_number(self):
        answer = ask_last(tree(*EXAMPLE_TREE), range_of(0, 0))
        self.assertEqual(answer, [0, 4, 57, 48, 47, 49, 5, 49, 49, 53, 47, 49])

    def test_the_row_or_the_quotes_end_it(self):
        self.assertEqual(told_range((1, 1, 1, [60, 70, 80], [99, 75, 80]), 0, 0), ["70/1", "80/1"])
        self.assertEqual(told_range((1, 1, 1, [71, 70, 80], [99, 75, 80]), 0, 0), ["71/1", "80/1"])
        self.assertEqual(told_range((1, 1, 1, [60, 70, 80], [79, 75, 80]), 0, 0), ["70/1", "79/1"])
        self.assertEqual(told_range((1, 3, 2, [1, 70, 80], [99, 75, 80]), 0, 0), ["140/3", "160/3"])

    def test_of_the_last_step(self):
        self.assertEqual(told_range(EXAMPLE_TREE, 1, 0), ["80/1", "80/1"])
        self.assertEqual(told_range(EXAMPLE_TREE, 1, 1), ["110/1", "130/1"])

    def test_against_spans_and_points(self):
        for whole, asked_for in made_cases():
            spans = spans_of(*whole)
            for i, j in nodes_of(whole[0]):
                ends = told_range(whole, i, j)
                self.assertEqual(ends, [text(spans[i, j][0]), text(spans[i, j][1])])
                told = told_points(whole, asked_for, i, j)
                self.assertEqual(ends, [told[0][0], told[-1][0]])

    def test_no_claim_changes_it(self):
        calls = [tree(*EXAMPLE_TREE), range_of(0, 0), claim(0, [5, 900], [-3, 7]), range_of(0, 0)]
        told = ask(*calls)
        self.assertEqual(told[1], told[3])


class Refused(unittest.TestCase):
    WRONG_NODES = ((-1, 0), (0, -1), (0, 1), (1, 2), (2, 0), (2, 2), (1, -1), (-1, -1), (FAR, 0), (0, FAR), (FAR, FAR),
                   (1, -FAR), (-FAR, -FAR))

    def test_no_such_node(self):
        before = [tree(*EXAMPLE_TREE), claim(0, [1, 2], [3, 4])]
        for i, j in self.WRONG_NODES:
            check_refused(self, before, points(0, i, j), -3)
            check_refused(self, before, range_of(i, j), -3)

    def test_every_other_length(self):
        for n in (2, 3, 4):
            count = len(nodes_of(n))
            whole = tree(n, 1, 1, [7] * count, [7] * count)
            self.assertEqual(ask_last(whole, range_of(n, n))[0], 0)
            self.assertEqual(ask_last(whole, range_of(n + 1, 0)), [-3])
            self.assertEqual(ask_last(whole, range_of(n, n + 1)), [-3])

    def test_registers(self):
        before = [tree(*EXAMPLE_TREE), claim(0, [1, 2], [3, 4])]
        for r in (-1, 3, FAR, -FAR):
            check_refused(self, before, points(r, 0, 0), -1)
        check_refused(self, before, points(1, 0, 0), -2)

    def test_order(self):
        before = [tree(*EXAMPLE_TREE), claim(0, [1, 2], [3, 4])]
        self.assertEqual(ask_last(*before, points(3, 9, 9)), [-1])
        self.assertEqual(ask_last(*before, points(2, 9, 9)), [-2])
        self.assertEqual(ask(points(0, 9, 9)), [[-7]])
        self.assertEqual(ask(range_of(9, 9)), [[-7]])


if __name__ == "__main__":
    unittest.main()
