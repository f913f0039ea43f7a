"""Point 4, and point 2 as far as it goes: squeezelists/origins.py."""

import unittest
from itertools import islice
from random import Random

from error_checks import BAD_LISTS, ErrorChecks
from oracles import all_lists, length_by_groups, length_by_taking_away, lists_with_product_up_to, origins_by_trying
from squeezelists.errors import InvalidList, InvalidNumber
from squeezelists.origins import count_origins, greatest_origin, origins
from squeezelists.reaches import best_lists, best_reach

# Lists with products from one to some thousand.
LISTS = [
    [], [2], [3], [7], [40], [2, 2], [2, 3], [3, 2], [5, 5], [6, 3, 2], [2, 3, 6], [4, 3, 2], [9, 8, 7], [30, 30],
    [2, 40], [40, 2], [21, 6, 3, 3], [2] * 10, [2] * 12, [2, 3, 2, 3, 2, 3], [3, 2, 2, 2, 2, 2, 2, 2], [1000, 2], [2, 1000],
]


def by_length(numbers, last):
    """Tries all runs up to the last one; returns the origins of each length."""
    found = {}
    for run in range(last + 1):
        found.setdefault(length_by_groups(run, numbers), []).append(run)
    return found


def random_list(random, most, greatest):
    return [random.randint(2, random.choice([3, 9, greatest])) for _ in range(random.randint(0, most))]


class GreatestOriginTest(unittest.TestCase, ErrorChecks):

    def test_against_trying_all_runs(self):
        for numbers in LISTS:
            for length in [0, 1, 2, 3, 5]:
                with self.subTest(numbers=numbers, length=length):
                    self.assertEqual(greatest_origin(length, numbers), origins_by_trying(length, numbers)[-1])

    def test_all_small_lists(self):
        for numbers in lists_with_product_up_to(40):
            # No run of more than length * product characters becomes so short: some longer ones are tried too.
            found = by_length(numbers, 1000)
            for length in range(0, 6):
                with self.subTest(numbers=numbers, length=length):
                    self.assertEqual(greatest_origin(length, numbers), found[length][-1])

    def test_great_lengths_and_numbers(self):
        random = Random(9)
        for _ in range(200):
            numbers = random_list(random, 12, 10 ** 6)
            length = random.randint(0, 10 ** random.randint(1, 30) - 1)
            with self.subTest(numbers=numbers, length=length):
                run = greatest_origin(length, numbers)
                self.assertEqual(length_by_taking_away(run, numbers), length)
                for more in [1, 2, 3, 10, 10 ** 6, run + 1]:
                    self.assertGreater(length_by_taking_away(run + more, numbers), length)

    def test_length_0_and_the_empty_list(self):
        for numbers in LISTS:
            self.assertEqual(greatest_origin(0, numbers), 0)
        for length in [0, 1, 2, 10 ** 30 - 1]:
            self.assertEqual(greatest_origin(length, []), length)

    def test_twelve_greatest_numbers(self):
        self.assertEqual(greatest_origin(10 ** 30 - 1, [10 ** 6] * 12), (10 ** 30 - 1) * 10 ** 72)

    def test_returned_values_may_be_passed_on(self):
        great = best_reach(12)
        self.assertEqual(greatest_origin(great, [2, 3]), great * 6)
        numbers = list(best_lists(8))[0]
        self.assertEqual(length_by_taking_away(greatest_origin(7, numbers), numbers), 7)

    def test_by_name(self):
        self.assertEqual(greatest_origin(length=1, replacements=[3, 2]), 6)
        self.assertEqual(greatest_origin(replacements=[3, 2], length=2), 12)

    def test_errors(self):
        for length in [-1, -10 ** 30]:
            self.assert_raises_with(InvalidNumber, length, lambda: greatest_origin(length, [2]))
            self.assert_raises_with(InvalidNumber, length, lambda: greatest_origin(length=length, replacements=[]))
        for numbers, index in BAD_LISTS:
            with self.subTest(numbers=numbers):
                self.assert_raises_with(InvalidList, index, lambda: greatest_origin(0, numbers))
                self.assert_raises_with(InvalidList, index, lambda: greatest_origin(5, replacements=numbers))
                self.assert_raises_with(InvalidNumber, -2, lambda: greatest_origin(-2, numbers))

    def test_the_list_is_unchanged(self):
        numbers = [6, 3, 2]
        greatest_origin(5, numbers)
        self.assertEqual(numbers, [6, 3, 2])


class OriginsTest(unittest.TestCase, ErrorChecks):

    def test_against_trying_all_runs(self):
        for numbers in LISTS:
            for length in [0, 1, 2, 3, 5]:
                with self.subTest(numbers=numbers, length=length):
                    self.assertEqual(list(origins(length, numbers)), origins_by_trying(length, numbers))

    def test_all_small_lists(self):
        for numbers in lists_with_product_up_to(40):
            found = by_length(numbers, 800)
            for length in range(0, 21):
                with self.subTest(numbers=numbers, length=length):
                    self.assertEqual(list(origins(length, numbers)), found[length])

    def test_ends_of_the_bounds(self):
        for numbers in [[10000], [100, 100], [10] * 4, [2, 5000], [5000, 2]]:
            with self.subTest(numbers=numbers):
                self.assertEqual(list(origins(100, numbers)), origins_by_trying(100, numbers))
        for numbers in [[2] * 13, [3] * 8, [4, 5, 5, 4, 5, 5]]:
            with self.subTest(numbers=numbers):
                found = list(origins(100, numbers))
                self.assertEqual(found, sorted(found))
                # A great length has one origin for each choice of what the replacements leave over.
                self.assertEqual(len(set(found)), greatest_origin(1, numbers))
                self.assertEqual({length_by_groups(run, numbers) for run in found}, {100})

    def test_length_0_and_the_empty_list(self):
        for numbers in LISTS:
            self.assertEqual(list(origins(0, numbers)), [0])
        for length in [0, 1, 2, 100]:
            self.assertEqual(list(origins(length, [])), [length])

    def test_stopping_early(self):
        found = origins(1, [3, 2])
        self.assertEqual([next(found), next(found)], [1, 2])
        found.close()
        # The least run has nine characters left over at each of the four replacements.
        self.assertEqual(list(islice(origins(100, [10] * 4), 2)), [910009, 910018])
        for origin in origins(1, [6, 3, 2]):
            if origin > 3:
                break
        self.assertEqual(origin, 4)
        self.assertEqual(list(origins(1, [3, 2])), [1, 2, 3, 4, 6])

    def test_two_at_once(self):
        self.assertEqual(list(zip(origins(1, [3, 2]), origins(2, [2]))), [(1, 3), (2, 4)])

    def test_no_list_is_remembered(self):
        numbers = [3, 2]
        found = origins(1, numbers)
        self.assertEqual(next(found), 1)
        numbers.append(5)
        numbers[0] = 4
        self.assertEqual(list(found), [2, 3, 4, 6])

    def test_by_name(self):
        self.assertEqual(list(origins(length=2, replacements=[2])), [3, 4])
        self.assertEqual(list(origins(replacements=[2], length=2)), [3, 4])

    def test_errors_come_before_the_first_origin(self):
        for length in [-1, -10 ** 30]:
            self.assert_raises_with(InvalidNumber, length, lambda: next(iter(origins(length, [2]))))
            self.assert_raises_with(InvalidNumber, length, lambda: next(iter(origins(length=length, replacements=[]))))
        for numbers, index in BAD_LISTS:
            with self.subTest(numbers=numbers):
                self.assert_raises_with(InvalidList, index, lambda: next(iter(origins(0, numbers))))
                self.assert_raises_with(InvalidList, index, lambda: next(iter(origins(5, replacements=numbers))))
                self.assert_raises_with(InvalidNumber, -2, lambda: next(iter(origins(-2, numbers))))

    def test_the_list_is_unchanged(self):
        numbers = [6, 3, 2]
        list(origins(5, numbers))
        self.assertEqual(numbers, [6, 3, 2])


class CountOriginsTest(unittest.TestCase, ErrorChecks):

    def test_against_trying_all_runs(self):
        for numbers in LISTS:
            for length in [0, 1, 2, 3, 5, 40]:
                expected = origins_by_trying(length, numbers, 3000)
                for last in [0, 1, 2, 3, 4, 5, 7, 10, 39, 40, 41, 100, 333, 1000, 1999, 2000, 2999, 3000]:
                    with self.subTest(numbers=numbers, length=length, last=last):
                        many = sum(run <= last for run in expected)
                        self.assertEqual(count_origins(length, numbers, last), many)

    def test_every_limit_of_small_lists(self):
        for numbers in all_lists(1, 7) + all_lists(2, 5) + all_lists(3, 4) + all_lists(4, 3):
            after = [length_by_groups(run, numbers) for run in range(150)]
            for length in range(0, 6):
                for last in range(150):
                    with self.subTest(numbers=numbers, length=length, last=last):
                        self.assertEqual(count_origins(length, numbers, last), after[:last + 1].count(length))

    def test_all_origins(self):
        for numbers in LISTS:
            for length in [0, 1, 2, 7, 100]:
                with self.subTest(numbers=numbers, length=length):
                    many = len(list(origins(length, numbers)))
                    top = greatest_origin(length, numbers)
                    for last in [top, top + 1, top * 2, 10 ** 30 - 1]:
                        self.assertEqual(count_origins(length, numbers, last), many)

    def test_great_limits_rise_by_one_where_the_run_has_the_length(self):
        random = Random(11)
        for _ in range(40):
            numbers = random_list(random, 8, 30)
            middle = random.randint(0, 10 ** random.choice([3, 8, 15, 30]) - 200)
            length = length_by_taking_away(middle, numbers)
            before = count_origins(length, numbers, max(middle - 60, 0))
            for last in range(max(middle - 60, 0) + 1, middle + 60):
                many = count_origins(length, numbers, last)
                with self.subTest(numbers=numbers, length=length, last=last):
                    self.assertEqual(many - before, length_by_taking_away(last, numbers) == length)
                before = many

    def test_ends_of_the_bounds(self):
        for numbers in [[30] * 8, [2] * 8, [2, 30] * 4, [30, 2] * 4, [30, 29, 28, 27, 26, 25, 24, 23]]:
            product = greatest_origin(1, numbers)
            with self.subTest(numbers=numbers):
                length = (10 ** 30 - 1) // product
                # A great length has one origin for each choice of what the replacements leave over.
                self.assertEqual(count_origins(length, numbers, 10 ** 30 - 1), product)
                self.assertEqual(count_origins(length, numbers, length * product - 1), product - 1)
                self.assertEqual(count_origins(10 ** 30 - 1, numbers, 10 ** 30 - 1), 0)
                self.assertEqual(count_origins(1, numbers, product - numbers[0] + 1),
                                 count_origins(1, numbers, 10 ** 30 - 1) - 1)

    def test_all_runs_have_a_length(self):
        for numbers in [[30] * 3, [2, 3, 5, 7], [5]]:
            for last in [0, 1, 29, 30, 1000, 12345]:
                with self.subTest(numbers=numbers, last=last):
                    longest = max(length_by_groups(run, numbers) for run in range(last + 1))
                    counts = [count_origins(length, numbers, last) for length in range(longest + 2)]
                    self.assertEqual(sum(counts), last + 1)
                    self.assertEqual(counts[-1], 0)

    def test_length_0_and_the_empty_list(self):
        for numbers in LISTS:
            for last in [0, 1, 10 ** 30 - 1]:
                self.assertEqual(count_origins(0, numbers, last), 1)
        for length in [1, 2, 10 ** 30 - 1]:
            found = [count_origins(length, [], last) for last in [0, length - 1, length, length + 1]]
            self.assertEqual(found, [0, 0, 1, 1])

    def test_limit_0(self):
        for numbers in LISTS:
            for length in [1, 2, 10 ** 30 - 1]:
                self.assertEqual(count_origins(length, numbers, 0), 0)

    def test_somewhat_beyond_the_bounds(self):
        self.assertEqual(count_origins(10 ** 30, [2] * 20, 10 ** 40), 2 ** 20)
        self.assertEqual(count_origins(10 ** 30, [40] * 9, 10 ** 50), 40 ** 9)
        top = greatest_origin(5, [30] * 8)
        self.assertEqual(count_origins(top, [30] * 8, greatest_origin(top, [30] * 8)), 30 ** 8)

    def test_by_name(self):
        self.assertEqual(count_origins(length=1, replacements=[3, 2], last=4), 4)
        self.assertEqual(count_origins(last=3, replacements=[3, 2], length=1), 3)
        self.assertEqual(count_origins(1, [3, 2], last=5), 4)

    def test_errors(self):
        for length in [-1, -10 ** 30]:
            self.assert_raises_with(InvalidNumber, length, lambda: count_origins(length, [2], 5))
            self.assert_raises_with(InvalidNumber, length, lambda: count_origins(length, last=5, replacements=[]))
        for numbers, index in BAD_LISTS:
            with self.subTest(numbers=numbers):
                self.assert_raises_with(InvalidList, index, lambda: count_origins(0, numbers, 0))
                self.assert_raises_with(InvalidList, index, lambda: count_origins(5, numbers, last=9))
        for last in [-1, -10 ** 30]:
            for numbers in [[], [2], [30] * 8]:
                self.assert_raises_with(InvalidNumber, last, lambda: count_origins(0, numbers, last))

    def test_order_of_errors(self):
        for numbers, index in BAD_LISTS:
            with self.subTest(numbers=numbers):
                self.assert_raises_with(InvalidNumber, -2, lambda: count_origins(-2, numbers, 3))
                self.assert_raises_with(InvalidNumber, -2, lambda: count_origins(-2, numbers, -3))
                self.assert_raises_with(InvalidList, index, lambda: count_origins(2, numbers, -3))
        self.assert_raises_with(InvalidNumber, -2, lambda: count_origins(-2, [2], -3))

    def test_the_list_is_unchanged(self):
        numbers = [6, 3, 2]
        count_origins(5, numbers, 100)
        self.assertEqual(numbers, [6, 3, 2])


if __name__ == '__main__':
    unittest.main()
