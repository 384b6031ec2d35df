"""What the tests share: writing calls, reading answers, the document's words in another form, trees by a seed."""

import itertools
import random
from fractions import Fraction

from costhedge.desk import answers

EXAMPLE_TREE = (1, 1, 1, [90, 80, 110], [115, 80, 130])
FAR = 10 ** 18


def tree(n, a, b, bids, asks):
    return [0, n, a, b, len(bids)] + bids + [len(asks)] + asks


def claim(r, cash, units):
    return [1, r, len(cash)] + cash + [len(units)] + units


def turn(r, x):
    return [2, r, x]


def sum_of(r, x, y):
    return [3, r, x, y]


def least(r, i, j, x):
    return [4, r, i, j, x]


def points(r, i, j):
    return [5, r, i, j]


def range_of(i, j):
    return [6, i, j]


def plan(r, i, j, num, den):
    return [7, r, i, j, num, den]


def walk(r, x, way):
    return [8, r, x, len(way)] + way


def held_on(r, x, way):
    return [9, r, x, len(way)] + way


def enough(r, x, num, den):
    return [10, r, x, num, den]


def quotes(i):
    return [11, i]


def told_of(r):
    return [12, r]


def ask(*calls):
    """The answer of each call, as a list of lists; what stands behind the last one is a fault."""
    given = answers([number for call in calls for number in call])
    single = []
    place = 0
    for _ in calls:
        count = given[place]
        single.append(given[place + 1:place + 1 + count])
        assert len(single[-1]) == count >= 1
        place += 1 + count
    assert place == len(given)
    return single


def ask_last(*calls):
    return ask(*calls)[-1]


def text_of(numbers):
    return bytes(numbers).decode("ascii")


def read_fraction(answer):
    """The text of an answer that is a fraction."""
    assert answer[0] == 0
    return text_of(answer[1:])


def read_counted(numbers):
    """The texts of counted fractions, one behind another."""
    texts = []
    place = 0
    while place < len(numbers):
        count = numbers[place]
        texts.append(text_of(numbers[place + 1:place + 1 + count]))
        assert len(texts[-1]) == count
        place += 1 + count
    return texts


def read_held(answer):
    """The texts of an answer of held."""
    texts = read_counted(answer[1:])
    assert len(texts) == answer[0]
    return texts


def read_points(answer):
    """The points of an answer, as pairs of texts."""
    texts = read_counted(answer[1:])
    assert len(texts) == 2 * answer[0]
    return list(zip(texts[0::2], texts[1::2]))


def fractions_of(pairs):
    return [(Fraction(q), Fraction(v)) for q, v in pairs]


def text(value):
    return f"{value.numerator}/{value.denominator}"


def node_number(i, j):
    return i * (i + 1) // 2 + j


def nodes_of(n):
    return [(i, j) for i in range(n + 1) for j in range(i + 1)]


def spans_of(n, a, b, bids, asks):
    """By node the least and the greatest q that are left there, or None if the tree isn't let."""
    spans = {}
    for i, j in reversed(nodes_of(n)):
        low = Fraction(bids[node_number(i, j)])
        high = Fraction(asks[node_number(i, j)])
        if i < n:
            coming = [spans[i + 1, j], spans[i + 1, j + 1]]
            low = max(low, min(span[0] for span in coming) * b / a)
            high = min(high, max(span[1] for span in coming) * b / a)
        if low > high:
            return None
        spans[i, j] = (low, high)
    return spans


def upper_row(candidates):
    """The upper row, each point looked at by itself as the document tells it."""
    best = {}
    for q, v in candidates:
        best[q] = max(v, best.get(q, v))
    row = []
    for q, v in sorted(best.items()):
        lesser = [point for point in best.items() if point[0] < q]
        greater = [point for point in best.items() if point[0] > q]
        if all(v > v1 + (v2 - v1) * (q - q1) / (q2 - q1) for q1, v1 in lesser for q2, v2 in greater):
            row.append((q, v))
    return row


def row_value(row, q):
    for one, other in zip(row, row[1:]):
        if one[0] <= q <= other[0]:
            return one[1] + (other[1] - one[1]) * (q - one[0]) / (other[0] - one[0])
    return dict(row)[q]


def document_nodes(n, a, b, bids, asks, cash, units):
    """By node the upper row, before it's cut, and by node its points, straight from the document's words."""
    rows = {}
    found = {}
    for i, j in reversed(nodes_of(n)):
        bid = Fraction(bids[node_number(i, j)])
        asked = Fraction(asks[node_number(i, j)])
        if i == n:
            found[i, j] = sorted({(q, cash[j] + units[j] * q) for q in (bid, asked)})
            continue
        coming = found[i + 1, j] + found[i + 1, j + 1]
        row = upper_row([(q * b / a, v * b / a) for q, v in coming])
        first = max(bid, row[0][0])
        last = min(asked, row[-1][0])
        inner = [point for point in row if first < point[0] < last]
        ends = {(q, row_value(row, q)) for q in (first, last)}
        rows[i, j] = row
        found[i, j] = sorted(list(ends) + inner)
    return rows, found


def slope(one, other):
    return (other[1] - one[1]) / (other[0] - one[0])


def document_bounds(row, bid, asked):
    """The lower and the upper bound, each None if there's none, straight from the document's words."""
    pieces = list(zip(row, row[1:]))
    low = [slope(one, other) for one, other in pieces if one[0] <= asked < other[0]]
    high = [slope(one, other) for one, other in pieces if one[0] < bid <= other[0]]
    assert len(low) == (row[-1][0] > asked) and len(high) == (row[0][0] < bid)
    return low[0] if low else None, high[0] if high else None


def document_plan(row, bid, asked, x):
    """What one who holds x units plans to hold."""
    low, high = document_bounds(row, bid, asked)
    if low is not None and x < low:
        return low
    if high is not None and x > high:
        return high
    return x


def trading_cost(bid, asked, x, y):
    return (y - x) * (asked if y >= x else bid)


def document_walk(whole, asked_for, rows, found, x, way):
    """What's left at the way's end, and the units held behind trading at each node; rows and points are told."""
    n, a, b, bids, asks = whole
    units = Fraction(x)
    cash = max(v - q * units for q, v in found[0, 0])
    held = []
    for k in range(n):
        node = (k, sum(way[:k]))
        bid, asked = bids[node_number(*node)], asks[node_number(*node)]
        held.append(document_plan(rows[node], bid, asked, units))
        cash = (cash - trading_cost(bid, asked, units, held[-1])) * a / b
        units = held[-1]
    at = node_number(n, sum(way))
    owed, handed = asked_for[0][sum(way)], asked_for[1][sum(way)]
    return cash - owed - trading_cost(bids[at], asks[at], units, handed), held


def ways_of(n):
    return [list(way) for way in itertools.product((0, 1), repeat=n)]


def made_tree(seed, n, widest):
    """A tree of n steps that's let, with asks at most so far above bids as widest says, where that can be."""
    source = random.Random(seed)
    b = source.randint(20, 100)
    a = min(100, b + source.choice([0, 0, 1, 2, source.randint(0, 40)]))
    bids = [0] * ((n + 1) * (n + 2) // 2)
    asks = list(bids)
    spans = {}
    for i, j in reversed(nodes_of(n)):
        at = node_number(i, j)
        if i == n:
            bids[at] = source.randint(200, 2000)
            asks[at] = bids[at] + source.randint(0, widest)
            spans[i, j] = (Fraction(bids[at]), Fraction(asks[at]))
            continue
        coming = [spans[i + 1, j], spans[i + 1, j + 1]]
        low = min(span[0] for span in coming) * b / a
        high = max(span[1] for span in coming) * b / a
        bids[at] = max(1, source.randint(int(low) - widest // 2, int(high)))
        asks[at] = max(bids[at] + source.randint(0, widest), -int(-low // 1))
        spans[i, j] = (max(low, Fraction(bids[at])), min(high, Fraction(asks[at])))
    return (n, a, b, bids, asks)


def made_claim(seed, n, bound):
    source = random.Random(seed)
    cash = [source.randint(-bound, bound) for _ in range(n + 1)]
    units = [source.randint(-bound, bound) for _ in range(n + 1)]
    return cash, units


def humped_case(seed, n):
    """A tree with wide quotes before its last step and a claim that leaves many points on the row."""
    source = random.Random(seed)
    b = source.randint(90, 100)
    bids = [source.randint(1, 300) for _ in nodes_of(n - 1)]
    asks = [source.randint(1500, 10000) for _ in bids]
    ends = sorted(source.sample(range(300, 1500), n + 1))
    bids += ends
    asks += [end + source.randint(0, 60) for end in ends]
    cash = [100000 - (end - 900) ** 2 // 4 for end in ends]
    units = [(900 - end) // 2 for end in ends]
    return (n, source.randint(b, 100), b, bids, asks), (cash, units)


def made_cases():
    """Trees of 1 to 4 steps with a claim each: bid equal to ask everywhere, at some nodes, and rarely."""
    cases = []
    for n in (1, 2, 3, 4):
        for widest in (0, 1, 40, 900):
            for seed in range(4):
                bound = (3, 1000, 1000000)[seed % 3]
                cases.append((made_tree(seed, n, widest), made_claim(seed, n, bound)))
        cases += [humped_case(seed, n) for seed in range(4)]
    return cases


def looks():
    """Calls that show all of an object that can be seen: every node's quotes, every register's claim and points."""
    calls = [quotes(i) for i in range(5)] + [told_of(r) for r in (0, 1, 2)]
    calls += [range_of(i, j) for i, j in nodes_of(4)]
    for r in (0, 1, 2):
        calls += [points(r, i, j) for i, j in nodes_of(4)]
    return calls


def seen_behind(*calls):
    """What the looks answer behind these calls."""
    return ask(*calls, *looks())[len(calls):]


def check_unchanged(case, before, call):
    """That the call isn't refused behind those before it, and leaves the object as it was."""
    case.assertGreaterEqual(ask(*before, call)[-1][0], 0)
    case.assertEqual(seen_behind(*before, call), seen_behind(*before))


def check_refused(case, before, call, refusal):
    """That the call is refused so behind those before it, and leaves the object as it was."""
    case.assertEqual(ask(*before, call)[-1], [refusal])
    case.assertEqual(seen_behind(*before, call), seen_behind(*before))
