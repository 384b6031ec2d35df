"""Lines of all thirteen calls among one another, against the document's words in another form."""

import random
import unittest
from fractions import Fraction

from costhedge.desk import answers
from tests.helper import FAR, ask, claim, document_nodes, document_plan, document_walk, enough, held_on, least
from tests.helper import made_claim, made_tree, node_number, plan, points, quotes, range_of, spans_of, sum_of, text
from tests.helper import told_of, tree, turn, walk

NUMBERS = (3, 1, 2, 3, 4, 3, 2, 5, 2, 2, 4, 1, 1)
LISTS = (2, 2, 0, 0, 0, 0, 0, 0, 1, 1, 0, 0, 0)
NAMES = ("tree", "claim", "turn", "sum", "least", "points", "range", "plan", "walk", "held", "enough", "quotes", "told")


class Refusal(Exception):
    pass


def need(holds, refusal):
    if not holds:
        raise Refusal(refusal)


def within(numbers, low=-1000000, high=1000000):
    return all(low <= number <= high for number in numbers)


def plain(value):
    return [0] + list(text(value).encode("ascii"))


def counted(value):
    return [len(text(value))] + list(text(value).encode("ascii"))


class Model:
    """The object as the document tells it, a call at a time; a call is its name and its parts."""

    def __init__(self):
        self.whole = None
        self.claims = {}
        self.reckoned = {}

    def answer(self, name, *parts):
        try:
            need(name == "tree" or self.whole is not None, -7)
            return getattr(self, name)(*parts)
        except Refusal as refusal:
            return [refusal.args[0]]

    def place(self, r):
        need(r in (0, 1, 2), -1)

    def claim_in(self, r):
        self.place(r)
        need(r in self.claims, -2)
        return self.claims[r]

    def nodes(self, r):
        key = repr((self.whole, self.claims[r]))
        if key not in self.reckoned:
            self.reckoned[key] = document_nodes(*self.whole, *self.claims[r])
        return self.reckoned[key]

    def node(self, i, j, last):
        need(0 <= i <= last and 0 <= j <= i, -3)

    def tree(self, n, a, b, bids, asks):
        need(n in (1, 2, 3, 4), -1)
        need(within([a, b], 1, 100) and a >= b, -2)
        need(len(bids) == len(asks) == (n + 1) * (n + 2) // 2, -3)
        need(within(bids + asks, 1, 10000), -4)
        need(all(bid <= asked for bid, asked in zip(bids, asks)), -5)
        need(spans_of(n, a, b, bids, asks) is not None, -6)
        self.whole = (n, a, b, bids, asks)
        self.claims = {}
        return [len(bids)]

    def claim(self, r, cash, units):
        self.place(r)
        need(len(cash) == len(units) == self.whole[0] + 1, -3)
        need(within(cash + units), -4)
        self.claims[r] = (cash, units)
        return [0]

    def turn(self, r, x):
        self.place(r)
        self.claims[r] = tuple([-number for number in row] for row in self.claim_in(x))
        return [0]

    def sum(self, r, x, y):
        self.place(r)
        pairs = list(zip(self.claim_in(x), self.claim_in(y)))
        made = tuple([one + other for one, other in zip(*pair)] for pair in pairs)
        need(within(made[0] + made[1]), -4)
        self.claims[r] = made
        return [0]

    def least_at(self, r, i, j, x):
        return max(v - q * x for q, v in self.nodes(r)[1][i, j])

    def least(self, r, i, j, x):
        self.claim_in(r)
        self.node(i, j, self.whole[0])
        need(within([x]), -4)
        return plain(self.least_at(r, i, j, x))

    def points(self, r, i, j):
        self.claim_in(r)
        self.node(i, j, self.whole[0])
        row = self.nodes(r)[1][i, j]
        return [len(row)] + [number for point in row for value in point for number in counted(value)]

    def range(self, i, j):
        self.node(i, j, self.whole[0])
        return [0] + [number for value in spans_of(*self.whole)[i, j] for number in counted(value)]

    def plan(self, r, i, j, num, den):
        self.claim_in(r)
        self.node(i, j, self.whole[0] - 1)
        need(within([den], 1) and within([num]), -4)
        at = node_number(i, j)
        row = self.nodes(r)[0][i, j]
        return plain(document_plan(row, self.whole[3][at], self.whole[4][at], Fraction(num, den)))

    def walked(self, r, x, way):
        self.claim_in(r)
        need(len(way) == self.whole[0] and within(way, 0, 1), -3)
        need(within([x]), -4)
        return document_walk(self.whole, self.claims[r], *self.nodes(r), x, way)

    def walk(self, r, x, way):
        return plain(self.walked(r, x, way)[0])

    def held(self, r, x, way):
        units = self.walked(r, x, way)[1]
        return [len(units)] + [number for value in units for number in counted(value)]

    def enough(self, r, x, num, den):
        self.claim_in(r)
        need(within([den], 1) and within([num, x]), -4)
        return [int(self.least_at(r, 0, 0, x) <= Fraction(num, den))]

    def quotes(self, i):
        need(0 <= i <= self.whole[0], -3)
        at = node_number(i, 0)
        pairs = list(zip(self.whole[3], self.whole[4]))[at:at + i + 1]
        return [i + 1] + [number for pair in pairs for number in pair]

    def told(self, r):
        cash, units = self.claim_in(r)
        return [len(cash)] + cash + [len(units)] + units


def parts_of(call):
    """The name of a written call and its parts."""
    numbers = NUMBERS[call[0]]
    parts = call[1:1 + numbers]
    rest = call[1 + numbers:]
    for _ in range(LISTS[call[0]]):
        parts.append(rest[1:1 + rest[0]])
        rest = rest[1 + rest[0]:]
    assert rest == []
    return NAMES[call[0]], parts


class Maker:
    """Calls by a seed: mostly ones that are taken, now and then with a part that's wrong."""

    def __init__(self, seed):
        self.source = random.Random(seed)
        self.steps = 1

    def some(self, low, high):
        if self.source.randrange(25) == 0:
            return self.source.choice((low - 1, high + 1, FAR, -FAR))
        return self.source.randint(low, high)

    def held(self):
        return self.some(-1000000, 1000000) if self.source.randrange(2) else self.some(-20, 20)

    def row(self, numbers):
        numbers = list(numbers)
        if self.source.randrange(25) == 0:
            numbers = (numbers * 2)[:self.source.randrange(6)]
        if numbers and self.source.randrange(25) == 0:
            numbers[self.source.randrange(len(numbers))] = self.source.choice((-1, 2, 0, 10001, 1000001, FAR))
        return numbers

    def made_tree(self):
        n, a, b, bids, asks = made_tree(self.source.random(), self.source.randint(1, 4), self.source.choice((0, 40, 900)))
        if self.source.randrange(10) == 0:
            return tree(self.some(1, 4), self.some(1, 100), self.some(1, 100), self.row(bids), self.row(asks))
        self.steps = n
        return tree(n, a, b, bids, asks)

    def made_claim(self):
        cash, units = made_claim(self.source.random(), self.steps, self.source.choice((3, 1000, 400000)))
        return claim(self.some(0, 2), self.row(cash), self.row(units))

    def call(self, number):
        way = self.row([self.source.randint(0, 1) for _ in range(self.steps)])
        r = self.some(0, 2)
        i = self.some(0, self.steps)
        j = self.some(0, max(0, min(i, 4)))
        den = self.some(1, self.source.choice((1, 10, 1000000)))
        made = (self.made_tree, self.made_claim, lambda: turn(self.some(0, 2), r),
                lambda: sum_of(self.some(0, 2), r, self.some(0, 2)), lambda: least(r, i, j, self.held()),
                lambda: points(r, i, j), lambda: range_of(i, j), lambda: plan(r, i, j, self.held(), den),
                lambda: walk(r, self.held(), way), lambda: held_on(r, self.held(), way),
                lambda: enough(r, self.held(), self.held(), den), lambda: quotes(i), lambda: told_of(r))
        return made[number]()

    def line(self, count):
        calls = [self.made_tree()] + [self.made_claim() for _ in range(min(3, count - 1))]
        while len(calls) < count:
            # A tree empties the registers, so claims come often and trees seldom.
            number = self.source.choice([0] + [1] * 12 + [2, 3] * 5 + list(range(4, 13)) * 8)
            if number != 5 or sum(call[0] == 5 for call in calls) < 100:
                calls.append(self.call(number))
        return calls


class Lines(unittest.TestCase):
    def test_against_the_words_of_the_document(self):
        seen = set()
        for seed in range(60):
            calls = Maker(seed).line((1, 2, 10, 50, 100, 400)[seed % 6])
            model = Model()
            for call, answer in zip(calls, ask(*calls)):
                name, parts = parts_of(call)
                with self.subTest(seed=seed, call=call):
                    self.assertEqual(answer, model.answer(name, *parts))
                seen.add((name, min(answer[0], 0)))
        refusals = {"plan": (-7, -1, -2, -3, -4), "walk": (-7, -1, -2, -3, -4), "held": (-7, -1, -2, -3, -4),
                    "enough": (-7, -1, -2, -4), "quotes": (-7, -3), "told": (-7, -1, -2)}
        for name in NAMES:
            for refusal in (0,) + refusals.get(name, ()):
                self.assertIn((name, refusal), seen)

    def test_the_list_handed_in_is_the_same_behind_the_call(self):
        for seed in range(6):
            line = [number for call in Maker(seed).line(400) for number in call]
            handed = list(line)
            first = answers(handed)
            self.assertEqual(handed, line)
            self.assertEqual(answers(handed), first)

    def test_a_line_answers_what_its_beginning_answered_and_more(self):
        calls = Maker(77).line(60)
        whole = ask(*calls)
        for count in range(1, 60):
            self.assertEqual(ask(*calls[:count]), whole[:count])


if __name__ == "__main__":
    unittest.main()
