"""The answer of each call: a function of the book and the call's parts, its numbers and then its rows.

A refusal is given back alone, before anything of the book is changed.
"""

from costhedge.claim import Claim
from costhedge.claim import together
from costhedge.claim import turned
from costhedge.hedge import is_let
from costhedge.hedge import node_range
from costhedge.hedge import points_by_step
from costhedge.plan import planned
from costhedge.ratio import counted_bytes
from costhedge.ratio import less
from costhedge.ratio import ratio
from costhedge.ratio import text_bytes
from costhedge.row import least_cash
from costhedge.tree import Tree
from costhedge.tree import all_between
from costhedge.tree import nodes_before
from costhedge.tree import tree_refusal
from costhedge.walk import walked

LIMIT = 1000000


def answer_tree(book, parts):
    n = parts[0]
    a = parts[1]
    b = parts[2]
    bids = parts[3]
    asks = parts[4]
    refused = tree_refusal(n, a, b, bids, asks)
    if refused != 0:
        return [refused]
    tree = Tree(n, a, b, bids, asks)
    if not is_let(tree):
        return [-6]
    book.take_tree(tree)
    return [nodes_before(n + 1)]


def answer_claim(book, parts):
    r = parts[0]
    cash = parts[1]
    units = parts[2]
    refused = book.refusal([r], [])
    if refused != 0:
        return [refused]
    ends = book.tree.steps + 1
    if len(cash) != ends or len(units) != ends:
        return [-3]
    if not all_between(cash + units, -LIMIT, LIMIT):
        return [-4]
    book.put_claim(r, Claim(cash, units))
    return [0]


def answer_turn(book, parts):
    r = parts[0]
    x = parts[1]
    refused = book.refusal([r], [x])
    if refused != 0:
        return [refused]
    book.put_claim(r, turned(book.claims[x]))
    return [0]


def answer_sum(book, parts):
    r = parts[0]
    x = parts[1]
    y = parts[2]
    refused = book.refusal([r], [x, y])
    if refused != 0:
        return [refused]
    claim = together(book.claims[x], book.claims[y])
    if not all_between(claim.cash + claim.units, -LIMIT, LIMIT):
        return [-4]
    book.put_claim(r, claim)
    return [0]


def answer_least(book, parts):
    r = parts[0]
    i = parts[1]
    j = parts[2]
    x = parts[3]
    refused = book.refusal([], [r])
    if refused != 0:
        return [refused]
    if not book.tree.has_node(i, j):
        return [-3]
    if not all_between([x], -LIMIT, LIMIT):
        return [-4]
    points = points_by_step(book.tree, book.claims[r])[i][j]
    return [0] + text_bytes(least_cash(points, ratio(x, 1)))


def answer_points(book, parts):
    r = parts[0]
    i = parts[1]
    j = parts[2]
    refused = book.refusal([], [r])
    if refused != 0:
        return [refused]
    if not book.tree.has_node(i, j):
        return [-3]
    points = points_by_step(book.tree, book.claims[r])[i][j]
    told = [len(points)]
    for q, v in points:
        told = told + counted_bytes(q) + counted_bytes(v)
    return told


def answer_range(book, parts):
    i = parts[0]
    j = parts[1]
    refused = book.refusal([], [])
    if refused != 0:
        return [refused]
    if not book.tree.has_node(i, j):
        return [-3]
    ends = node_range(book.tree, i, j)
    return [0] + counted_bytes(ends[0]) + counted_bytes(ends[1])


def answer_plan(book, parts):
    r = parts[0]
    i = parts[1]
    j = parts[2]
    num = parts[3]
    den = parts[4]
    refused = book.refusal([], [r])
    if refused != 0:
        return [refused]
    if not book.tree.has_node_before_last(i, j):
        return [-3]
    if not (1 <= den <= LIMIT and all_between([num], -LIMIT, LIMIT)):
        return [-4]
    coming = points_by_step(book.tree, book.claims[r])[i + 1]
    return [0] + text_bytes(planned(book.tree, i, j, coming, ratio(num, den)))


def walk_refusal(book, r, x, way):
    """What refuses a walk, or 0."""
    refused = book.refusal([], [r])
    if refused != 0:
        return refused
    if not book.tree.has_way(way):
        return -3
    if not all_between([x], -LIMIT, LIMIT):
        return -4
    return 0


def answer_walk(book, parts):
    r = parts[0]
    x = parts[1]
    way = parts[2]
    refused = walk_refusal(book, r, x, way)
    if refused != 0:
        return [refused]
    return [0] + text_bytes(walked(book.tree, book.claims[r], x, way).left)


def answer_held(book, parts):
    r = parts[0]
    x = parts[1]
    way = parts[2]
    refused = walk_refusal(book, r, x, way)
    if refused != 0:
        return [refused]
    told = [book.tree.steps]
    for units in walked(book.tree, book.claims[r], x, way).held:
        told = told + counted_bytes(units)
    return told


def answer_enough(book, parts):
    r = parts[0]
    x = parts[1]
    num = parts[2]
    den = parts[3]
    refused = book.refusal([], [r])
    if refused != 0:
        return [refused]
    if not (1 <= den <= LIMIT and all_between([num, x], -LIMIT, LIMIT)):
        return [-4]
    points = points_by_step(book.tree, book.claims[r])[0][0]
    if less(ratio(num, den), least_cash(points, ratio(x, 1))):
        return [0]
    return [1]


def answer_quotes(book, parts):
    i = parts[0]
    refused = book.refusal([], [])
    if refused != 0:
        return [refused]
    if not 0 <= i <= book.tree.steps:
        return [-3]
    told = [i + 1]
    for j in range(i + 1):
        told = told + [book.tree.bid_at(i, j), book.tree.ask_at(i, j)]
    return told


def answer_told(book, parts):
    r = parts[0]
    refused = book.refusal([], [r])
    if refused != 0:
        return [refused]
    claim = book.claims[r]
    return [len(claim.cash)] + claim.cash + [len(claim.units)] + claim.units


# At a call's number: how many whole numbers it has, how many rows behind them, and what answers it.
FORMS = (
    (3, 2, answer_tree),
    (1, 2, answer_claim),
    (2, 0, answer_turn),
    (3, 0, answer_sum),
    (4, 0, answer_least),
    (3, 0, answer_points),
    (2, 0, answer_range),
    (5, 0, answer_plan),
    (2, 1, answer_walk),
    (2, 1, answer_held),
    (4, 0, answer_enough),
    (1, 0, answer_quotes),
    (1, 0, answer_told),
)
