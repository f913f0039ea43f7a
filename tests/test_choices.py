"""Points 4 and 6, and point 2 as far as it goes: squeezelists/choices.py."""

import unittest
from bisect import bisect_right
from itertools import accumulate
from random import Random

from error_checks import ErrorChecks
from oracles import all_lists, length_by_groups, makes_single, reach_by_trying
from squeezelists.choices import count_lists, nth_list
from squeezelists.errors import InvalidNumber
from squeezelists.reaches import best_lists, best_reach

# Steps and greatest replacements for which all lists are tried.
SMALL = [(0, 2), (0, 9), (1, 2), (1, 3), (1, 12), (2, 2), (2, 3), (2, 9), (3, 2), (3, 6), (4, 2), (4, 4), (4, 6)]


class Counter:
    """Counts lists by the reaches that their ends have, found by trying all runs up to a bound."""

    def __init__(self, greatest, bound):
        self.bound = bound
        self.numbers = range(2, greatest + 1)
        # For each replacement, the greatest length after it of all runs up to each one.
        self.longest = {number: list(accumulate((length_by_groups(run, [number]) for run in range(bound + 1)), max))
                        for number in self.numbers}
        self.ends = [{1: 1}]

    def reaches(self, steps):
        """Returns how many lists of so many replacements have which reach; the bound stands for all beyond it."""
        while len(self.ends) <= steps:
            found = {}
            for reached, many in self.ends[-1].items():
                for number in self.numbers:
                    run = bisect_right(self.longest[number], reached) - 1
                    found[run] = found.get(run, 0) + many
            self.ends.append(found)
        return self.ends[steps]

    def count_ends(self, steps, longest):
        """Returns how many lists of so many replacements make all runs up to the longest one single."""
        return sum(many for reached, many in self.reaches(steps).items() if reached >= longest)

    def count_before(self, numbers, length):
        """Returns how many good lists with as many replacements come before a list."""
        before = 0
        longest = length
        for place, number in enumerate(numbers):
            for less in range(2, number):
                before += self.count_ends(len(numbers) - place - 1, self.longest[less][longest])
            longest = self.longest[number][longest]
        return before


class CountListsTest(unittest.TestCase, ErrorChecks):

    def test_against_trying_all_lists(self):
        for steps, greatest in SMALL:
            reaches = [reach_by_trying(numbers, 1) for numbers in all_lists(steps, greatest)]
            for length in range(0, 45):
                with self.subTest(steps=steps, greatest=greatest, length=length):
                    expected = sum(reached >= length for reached in reaches)
                    self.assertEqual(count_lists(steps, greatest, length), expected)

    def test_run_by_run(self):
        for steps, greatest in [(0, 4), (1, 5), (2, 6), (3, 5), (4, 4)]:
            for length in range(0, 14):
                with self.subTest(steps=steps, greatest=greatest, length=length):
                    expected = sum(makes_single(numbers, length) for numbers in all_lists(steps, greatest))
                    self.assertEqual(count_lists(steps, greatest, length), expected)

    def test_steps_0(self):
        for greatest in [2, 3, 60]:
            self.assertEqual([count_lists(0, greatest, length) for length in [0, 1, 2, 3, 10000]], [1, 1, 0, 0, 0])

    def test_lengths_0_and_1_let_every_list_be(self):
        for steps in range(9):
            for greatest in [2, 3, 17, 60]:
                for length in [0, 1]:
                    self.assertEqual(count_lists(steps, greatest, length), (greatest - 1) ** steps)

    def test_greatest_2_has_one_list(self):
        for steps in range(9):
            reached = 2 ** steps
            found = [count_lists(steps, 2, length) for length in [0, 1, reached, reached + 1, 10000]]
            self.assertEqual(found, [1, 1, 1, 0, 0])

    def test_lengths_that_no_list_reaches(self):
        self.assertEqual(count_lists(3, 60, 11), 0)
        for steps in range(6):
            top = best_reach(steps)
            with self.subTest(steps=steps):
                # All best lists of so few replacements have numbers of at most 60.
                self.assertEqual(count_lists(steps, 60, top), len(list(best_lists(steps))))
                self.assertEqual(count_lists(steps, 60, top + 1), 0)
        self.assertEqual([count_lists(5, 20, 460), count_lists(5, 21, 460)], [0, 8])
        self.assertEqual([count_lists(4, 60, 10000), count_lists(8, 3, 10000)], [0, 0])

    def test_eight_steps(self):
        for greatest in [60, 31, 7]:
            counter = Counter(greatest, 10000)
            for length in [0, 1, 2, 3, 40, 41, 461, 1000, 4999, 5000, 9998, 9999, 10000]:
                for steps in [5, 6, 7, 8]:
                    with self.subTest(steps=steps, greatest=greatest, length=length):
                        expected = counter.count_ends(steps, length)
                        self.assertEqual(count_lists(steps, greatest, length), expected)

    def test_somewhat_beyond_the_bounds(self):
        self.assertEqual(count_lists(10, 70, 1), 69 ** 10)
        self.assertEqual(count_lists(5, 100, 460), 16)
        self.assertEqual(count_lists(6, 231, 53590), 16)
        self.assertEqual(count_lists(15, 2, 2 ** 15), 1)

    def test_by_name(self):
        self.assertEqual(count_lists(steps=2, greatest=4, length=4), 2)
        self.assertEqual(count_lists(length=4, greatest=5, steps=2), 2)
        self.assertEqual(count_lists(2, 4, length=3), count_lists(2, 4, 3))

    def test_errors(self):
        for steps in [-1, -10 ** 30]:
            self.assert_raises_with(InvalidNumber, steps, lambda: count_lists(steps, 5, 5))
            self.assert_raises_with(InvalidNumber, steps, lambda: count_lists(greatest=5, steps=steps, length=5))
        for greatest in [1, 0, -2, -10 ** 30]:
            for steps in [0, 8]:
                self.assert_raises_with(InvalidNumber, greatest, lambda: count_lists(steps, greatest, 5))
        for length in [-1, -10 ** 30]:
            for steps in [0, 8]:
                self.assert_raises_with(InvalidNumber, length, lambda: count_lists(steps, 2, length))

    def test_order_of_errors(self):
        self.assert_raises_with(InvalidNumber, -3, lambda: count_lists(-3, 1, -4))
        self.assert_raises_with(InvalidNumber, -3, lambda: count_lists(-3, 1, 4))
        self.assert_raises_with(InvalidNumber, -3, lambda: count_lists(-3, 2, -4))
        self.assert_raises_with(InvalidNumber, 1, lambda: count_lists(3, 1, -4))


class NthListTest(unittest.TestCase, ErrorChecks):

    def test_against_trying_all_lists(self):
        for steps, greatest in SMALL:
            reaches = [(reach_by_trying(numbers, 1), numbers) for numbers in all_lists(steps, greatest)]
            for length in [0, 1, 2, 3, 4, 5, 6, 8, 10, 11, 20, 40]:
                expected = [numbers for reached, numbers in reaches if reached >= length]
                with self.subTest(steps=steps, greatest=greatest, length=length):
                    found = [nth_list(steps, greatest, length, number) for number in range(len(expected))]
                    self.assertEqual(found, expected)
                    for number in [len(expected), len(expected) + 1, -1]:
                        self.assert_raises_with(
                            InvalidNumber, number, lambda: nth_list(steps, greatest, length, number))

    def test_steps_0(self):
        for length in [0, 1]:
            self.assertEqual(nth_list(0, 60, length, 0), [])
            self.assert_raises_with(InvalidNumber, 1, lambda: nth_list(0, 60, length, 1))
        self.assert_raises_with(InvalidNumber, 0, lambda: nth_list(0, 60, 2, 0))

    def test_lengths_0_and_1_let_every_list_be(self):
        for length in [0, 1]:
            self.assertEqual(nth_list(8, 60, length, 0), [2] * 8)
            self.assertEqual(nth_list(8, 60, length, 59 ** 8 - 1), [60] * 8)
            self.assertEqual(nth_list(8, 60, length, 59 ** 3 * 5 + 59 * 7 + 1), [2, 2, 2, 2, 7, 2, 9, 3])
            self.assert_raises_with(InvalidNumber, 59 ** 8, lambda: nth_list(8, 60, length, 59 ** 8))

    def test_greatest_2_has_one_list(self):
        for steps in range(9):
            self.assertEqual(nth_list(steps, 2, 2 ** steps, 0), [2] * steps)
            self.assert_raises_with(InvalidNumber, 1, lambda: nth_list(steps, 2, 2 ** steps, 1))
            self.assert_raises_with(InvalidNumber, 0, lambda: nth_list(steps, 2, 2 ** steps + 1, 0))

    def test_all_best_lists(self):
        for steps in range(6):
            expected = list(best_lists(steps))
            found = [nth_list(steps, 60, best_reach(steps), number) for number in range(len(expected))]
            self.assertEqual(found, expected)

    def test_eight_steps_have_as_many_lists_before_as_the_number_says(self):
        random = Random(8)
        for greatest, lengths in [(60, [10000, 9999, 5000, 461, 2]), (31, [10000, 40]), (6, [1000])]:
            counter = Counter(greatest, 10000)
            for length in lengths:
                many = count_lists(8, greatest, length)
                numbers = [0, 1, many // 2, many - 2, many - 1] + [random.randrange(many) for _ in range(5)]
                for number in numbers:
                    with self.subTest(greatest=greatest, length=length, number=number):
                        found = nth_list(8, greatest, length, number)
                        self.assertEqual(len(found), 8)
                        self.assertTrue(2 <= min(found) and max(found) <= greatest)
                        self.assertTrue(makes_single(found, length))
                        self.assertEqual(counter.count_before(found, length), number)

    def test_numbers_of_both_ends(self):
        many = count_lists(8, 60, 10000)
        for number in [many, many + 1, 10 ** 30 - 1, -1, -2, -many, -10 ** 30]:
            self.assert_raises_with(InvalidNumber, number, lambda: nth_list(8, 60, 10000, number))
        self.assertLess(nth_list(8, 60, 10000, 0), nth_list(8, 60, 10000, many - 1))

    def test_no_list_at_all(self):
        for number in [0, 1, -1]:
            self.assert_raises_with(InvalidNumber, number, lambda: nth_list(3, 60, 11, number))
            self.assert_raises_with(InvalidNumber, number, lambda: nth_list(4, 60, 10000, number))

    def test_every_list_is_new(self):
        for arguments in [(2, 4, 4, 1), (0, 4, 1, 0), (1, 4, 0, 2)]:
            first = nth_list(*arguments)
            expected = list(first)
            first.append(9)
            self.assertEqual(nth_list(*arguments), expected)

    def test_by_name(self):
        self.assertEqual(nth_list(steps=2, greatest=4, length=4, number=1), [3, 2])
        self.assertEqual(nth_list(number=1, length=4, greatest=4, steps=2), [3, 2])
        self.assertEqual(nth_list(2, 4, 4, number=0), [2, 2])

    def test_errors(self):
        for steps in [-1, -10 ** 30]:
            self.assert_raises_with(InvalidNumber, steps, lambda: nth_list(steps, 5, 5, 0))
            self.assert_raises_with(
                InvalidNumber, steps, lambda: nth_list(greatest=5, steps=steps, length=5, number=0))
        for greatest in [1, 0, -2, -10 ** 30]:
            for steps in [0, 8]:
                self.assert_raises_with(InvalidNumber, greatest, lambda: nth_list(steps, greatest, 0, 0))
        for length in [-1, -10 ** 30]:
            for steps in [0, 8]:
                self.assert_raises_with(InvalidNumber, length, lambda: nth_list(steps, 2, length, 0))

    def test_order_of_errors(self):
        self.assert_raises_with(InvalidNumber, -3, lambda: nth_list(-3, 1, -4, -5))
        self.assert_raises_with(InvalidNumber, 1, lambda: nth_list(3, 1, -4, -5))
        self.assert_raises_with(InvalidNumber, -4, lambda: nth_list(3, 2, -4, -5))
        self.assert_raises_with(InvalidNumber, -3, lambda: nth_list(-3, 2, 4, -5))
        self.assert_raises_with(InvalidNumber, 1, lambda: nth_list(3, 1, 4, -5))
        self.assert_raises_with(InvalidNumber, -5, lambda: nth_list(3, 2, 4, -5))


if __name__ == '__main__':
    unittest.main()
