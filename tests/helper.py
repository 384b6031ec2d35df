"""What the tests share: writing calls, reading answers, and trees made by a seed."""

import random
from fractions import Fraction

from costhedge.desk import answers

EXAMPLE_TREE = (1, 1, 1, [90, 80, 110], [115, 80, 130])
FAR = 10 ** 18


def tree(n, a, b, bids, asks):
    return [0, n, a, b, len(bids)] + bids + [len(asks)] + asks


def claim(r, cash, units):
    return [1, r, len(cash)] + cash + [len(units)] + units


def turn(r, x):
    return [2, r, x]


def sum_of(r, x, y):
    return [3, r, x, y]


def least(r, i, j, x):
    return [4, r, i, j, x]


def points(r, i, j):
    return [5, r, i, j]


def range_of(i, j):
    return [6, i, j]


def ask(*calls):
    """The answer of each call, as a list of lists; what stands behind the last one is a fault."""
    given = answers([number for call in calls for number in call])
    told = []
    place = 0
    for _ in calls:
        count = given[place]
        told.append(given[place + 1:place + 1 + count])
        assert len(told[-1]) == count >= 1
        place += 1 + count
    assert place == len(given)
    return told


def ask_last(*calls):
    return ask(*calls)[-1]


def text_of(numbers):
    return bytes(numbers).decode("ascii")


def read_fraction(answer):
    """The text of an answer that is a fraction."""
    assert answer[0] == 0
    return text_of(answer[1:])


def read_counted(numbers):
    """The texts of counted fractions, one behind another."""
    texts = []
    place = 0
    while place < len(numbers):
        count = numbers[place]
        texts.append(text_of(numbers[place + 1:place + 1 + count]))
        assert len(texts[-1]) == count
        place += 1 + count
    return texts


def read_points(answer):
    """The points of an answer, as pairs of texts."""
    texts = read_counted(answer[1:])
    assert len(texts) == 2 * answer[0]
    return list(zip(texts[0::2], texts[1::2]))


def fractions_of(pairs):
    return [(Fraction(q), Fraction(v)) for q, v in pairs]


def text(value):
    return f"{value.numerator}/{value.denominator}"


def node_number(i, j):
    return i * (i + 1) // 2 + j


def nodes_of(n):
    return [(i, j) for i in range(n + 1) for j in range(i + 1)]


def spans_of(n, a, b, bids, asks):
    """By node the least and the greatest q that are left there, or None if the tree isn't let."""
    spans = {}
    for i, j in reversed(nodes_of(n)):
        low = Fraction(bids[node_number(i, j)])
        high = Fraction(asks[node_number(i, j)])
        if i < n:
            coming = [spans[i + 1, j], spans[i + 1, j + 1]]
            low = max(low, min(span[0] for span in coming) * b / a)
            high = min(high, max(span[1] for span in coming) * b / a)
        if low > high:
            return None
        spans[i, j] = (low, high)
    return spans


def made_tree(seed, n, widest):
    """A tree of n steps that's let, with asks at most so far above bids as widest says, where that can be."""
    source = random.Random(seed)
    b = source.randint(20, 100)
    a = min(100, b + source.choice([0, 0, 1, 2, source.randint(0, 40)]))
    bids = [0] * ((n + 1) * (n + 2) // 2)
    asks = list(bids)
    spans = {}
    for i, j in reversed(nodes_of(n)):
        at = node_number(i, j)
        if i == n:
            bids[at] = source.randint(200, 2000)
            asks[at] = bids[at] + source.randint(0, widest)
            spans[i, j] = (Fraction(bids[at]), Fraction(asks[at]))
            continue
        coming = [spans[i + 1, j], spans[i + 1, j + 1]]
        low = min(span[0] for span in coming) * b / a
        high = max(span[1] for span in coming) * b / a
        bids[at] = max(1, source.randint(int(low) - widest // 2, int(high)))
        asks[at] = max(bids[at] + source.randint(0, widest), -int(-low // 1))
        spans[i, j] = (max(low, Fraction(bids[at])), min(high, Fraction(asks[at])))
    return (n, a, b, bids, asks)


def made_claim(seed, n, bound):
    source = random.Random(seed)
    cash = [source.randint(-bound, bound) for _ in range(n + 1)]
    units = [source.randint(-bound, bound) for _ in range(n + 1)]
    return cash, units


def humped_case(seed, n):
    """A tree with wide quotes before its last step and a claim that leaves many points on the row."""
    source = random.Random(seed)
    b = source.randint(90, 100)
    bids = [source.randint(1, 300) for _ in nodes_of(n - 1)]
    asks = [source.randint(1500, 10000) for _ in bids]
    ends = sorted(source.sample(range(300, 1500), n + 1))
    bids += ends
    asks += [end + source.randint(0, 60) for end in ends]
    cash = [100000 - (end - 900) ** 2 // 4 for end in ends]
    units = [(900 - end) // 2 for end in ends]
    return (n, source.randint(b, 100), b, bids, asks), (cash, units)


def made_cases():
    """Trees of 1 to 4 steps with a claim each: bid equal to ask everywhere, at some nodes, and rarely."""
    cases = []
    for n in (1, 2, 3, 4):
        for widest in (0, 1, 40, 900):
            for seed in range(4):
                bound = (3, 1000, 1000000)[seed % 3]
                cases.append((made_tree(seed, n, widest), made_claim(seed, n, bound)))
        cases += [humped_case(seed, n) for seed in range(4)]
    return cases


def looks():
    """Calls that show all of an object that can be seen: every node's quotes, every register's points."""
    calls = [range_of(i, j) for i, j in nodes_of(4)]
    for r in (0, 1, 2):
        calls += [points(r, i, j) for i, j in nodes_of(4)]
    return calls


def seen_behind(*calls):
    """What the looks answer behind these calls."""
    return ask(*calls, *looks())[len(calls):]


def check_refused(case, before, call, refusal):
    """That the call is refused so behind those before it, and leaves the object as it was."""
    case.assertEqual(ask(*before, call)[-1], [refusal])
    case.assertEqual(seen_behind(*before, call), seen_behind(*before))
