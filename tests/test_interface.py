"""The interface: how calls are written in the list, what is given back, and that nothing is kept or changed."""

import contextlib
import io
import unittest

from costhedge.desk import answers
from tests.helper import EXAMPLE_TREE, FAR, claim, enough, held_on, least, looks, made_cases, made_claim, made_tree
from tests.helper import plan, points, quotes, range_of, sum_of, told_of, tree, turn, walk

EXAMPLE = [0, 1, 1, 1, 3, 90, 80, 110, 3, 115, 80, 130,
           1, 0, 2, 0, 0, 2, 0, 1,
           4, 0, 0, 0, 2,
           5, 0, 0, 0,
           6, 1, 0,
           6, 2, 0,
           7, 0, 0, 0, 4, 1,
           8, 0, 2, 1, 0,
           8, 0, 2, 1, 1,
           9, 0, 4, 1, 1,
           10, 0, 2, -110, 1,
           10, 0, 2, -111, 1,
           11, 1,
           2, 1, 0,
           3, 2, 1, 1,
           12, 2]
EXAMPLE_ANSWERS = [1, 3,
                   1, 0,
                   7, 0, 45, 49, 49, 48, 47, 49,
                   36, 3, 4, 57, 48, 47, 49, 5, 49, 49, 48, 47, 51,
                   5, 49, 49, 48, 47, 49, 5, 49, 49, 48, 47, 49,
                   5, 49, 49, 53, 47, 49, 5, 49, 49, 53, 47, 49,
                   11, 0, 4, 56, 48, 47, 49, 4, 56, 48, 47, 49,
                   1, -3,
                   5, 0, 49, 49, 47, 51,
                   5, 0, 53, 48, 47, 49,
                   4, 0, 48, 47, 49,
                   6, 1, 4, 49, 49, 47, 51,
                   1, 1,
                   1, 0,
                   5, 2, 80, 80, 110, 130,
                   1, 0,
                   1, 0,
                   6, 2, 0, 0, 2, 0, -2]


class Untouched(list):
    """A list that can't be changed, so that a change for a while is seen too."""

    def refuse(self, *parts):
        raise AssertionError("what is handed in was changed")

    append = clear = extend = insert = pop = remove = reverse = sort = refuse
    __setitem__ = __delitem__ = __iadd__ = __imul__ = refuse


def joined(calls):
    return [number for call in calls for number in call]


def long_line():
    """A line of 400 calls, of each of the thirteen sorts, taken and refused."""
    whole = made_tree(3, 4, 900)
    calls = [tree(*whole)] + [claim(r, *made_claim(r, 4, 500000)) for r in (0, 1, 2)]
    calls += [points(k % 3, 0, 0) for k in range(100)]
    while len(calls) < 400:
        k = len(calls)
        way = [k // step % 2 for step in (1, 2, 4, 8)]
        calls.append((least(k % 4, k % 5, k % 3, k), turn(k % 3, 0), sum_of(2, 1, 0), range_of(k % 6, 0),
                      plan(k % 4, k % 5, k % 2, k - 200, k % 13), walk(k % 4, k, way), held_on(k % 3, k, way[k % 5 // 4:]),
                      enough(k % 3, k, k - 200, k % 11), quotes(k % 6), told_of(k % 4))[k % 10])
    return joined(calls)


class Answers(unittest.TestCase):
    def test_the_long_line_has_all_calls_taken_and_refused(self):
        self.assertLessEqual(len(long_line()), 16000)
        given = answers(long_line())
        place = 0
        refusals = set()
        while place < len(given):
            refusals.add(min(given[place + 1], 0))
            place += 1 + given[place]
        self.assertEqual(refusals, {0, -1, -3, -4})

    def test_number_by_number(self):
        self.assertEqual(answers(list(EXAMPLE)), EXAMPLE_ANSWERS)

    def test_one_call_alone(self):
        self.assertEqual(answers(EXAMPLE[:12]), [1, 3])
        self.assertEqual(answers([6, 0, 0]), [1, -7])

    def test_rows_of_0_and_of_16_numbers_are_passed_over(self):
        for count in (0, 16):
            wrong = tree(1, 1, 1, [FAR] * count, [-FAR] * (16 - count)) + claim(0, [FAR] * count, [-FAR] * 16)
            wrong += walk(0, 0, [FAR] * count) + held_on(0, 0, [-FAR] * count)
            self.assertEqual(answers(wrong + EXAMPLE), [1, -3] + [1, -7] * 3 + EXAMPLE_ANSWERS)
            self.assertEqual(answers(EXAMPLE[:12] + wrong + EXAMPLE), [1, 3] + [1, -3] * 2 + [1, -2] * 2 + EXAMPLE_ANSWERS)
            self.assertEqual(answers(EXAMPLE[:20] + wrong), [1, 3, 1, 0] + [1, -3] * 4)

    def test_refused_calls_between_change_nothing(self):
        refused = [2, 9, 9, 3, 0, 1, 2, 4, 0, 0, 0, FAR, 5, 7, 0, 0, 6, 0, 1]
        refused += [7, 0, 1, 0, 0, 1, 8, 0, 0, 0, 9, 0, FAR, 1, 0, 10, 0, 0, 0, 0, 11, 2, 12, 1]
        answered = [1, -1, 1, -2, 1, -4, 1, -1, 1, -3, 1, -3, 1, -3, 1, -4, 1, -4, 1, -3, 1, -2]
        given = answers(EXAMPLE[:20] + refused + EXAMPLE[20:])
        self.assertEqual(given, EXAMPLE_ANSWERS[:4] + answered + EXAMPLE_ANSWERS[4:])

    def test_only_whole_numbers_in_one_list(self):
        given = answers(long_line())
        self.assertIs(type(given), list)
        self.assertEqual({type(number) for number in given}, {int})

    def test_first_below_0_only_where_it_is_refused(self):
        given = answers(long_line())
        place = 0
        calls = 0
        while place < len(given):
            if given[place + 1] < 0:
                self.assertEqual(given[place], 1)
            place += 1 + given[place]
            calls += 1
        self.assertEqual((place, calls), (len(given), 400))


class NothingKept(unittest.TestCase):
    def lines(self):
        made = [joined([tree(*whole), claim(0, *asked_for)] + looks()) for whole, asked_for in made_cases()[::9]]
        return made + [EXAMPLE, long_line()]

    def test_what_is_handed_in_is_not_changed(self):
        for line in self.lines():
            handed = Untouched(line)
            self.assertEqual(answers(handed), answers(list(line)))
            self.assertEqual(list(handed), line)

    def test_the_same_list_is_answered_the_same(self):
        for line in self.lines():
            first = answers(line)
            self.assertEqual(answers(line), first)

    def test_what_is_given_back_is_the_askers_own(self):
        first = answers(EXAMPLE)
        first.clear()
        self.assertEqual(answers(EXAMPLE), EXAMPLE_ANSWERS)

    def test_the_object_is_new_each_time(self):
        answers(EXAMPLE)
        self.assertEqual(answers([4, 0, 0, 0, 2]), [1, -7])
        self.assertEqual(answers(tree(*EXAMPLE_TREE) + [4, 0, 0, 0, 2]), [1, 3, 1, -2])

    def test_nothing_is_printed(self):
        with contextlib.redirect_stdout(io.StringIO()) as out, contextlib.redirect_stderr(io.StringIO()) as faults:
            answers(long_line())
        self.assertEqual(out.getvalue() + faults.getvalue(), "")


if __name__ == "__main__":
    unittest.main()
