"""Point 5, and point 2 as far as it goes: squeezelists/parting.py."""

import unittest
from random import Random

from error_checks import BAD_LISTS, ErrorChecks
from oracles import all_lists, length_by_groups, length_by_taking_away, lists_with_product_up_to, origins_by_trying
from squeezelists.errors import InvalidList
from squeezelists.origins import origins
from squeezelists.parting import commute, list_of, parting_run
from squeezelists.reaches import best_lists

SMALL = [numbers for steps in range(4) for numbers in all_lists(steps, 5)] + all_lists(4, 3)


def random_list(random, most=12, greatest=10 ** 6):
    top = random.choice([3, 9, 1000, greatest])
    return [random.randint(2, top) for _ in range(random.randint(0, most))]


def near_lists(random, numbers):
    """Returns lists that differ from a list by little, among them those with the same product."""
    found = [numbers[::-1], numbers[1:] + numbers[:1], sorted(numbers), numbers + [2], [2] + numbers, numbers * 2]
    if numbers:
        place = random.randrange(len(numbers))
        found += [numbers[:place] + numbers[place + 1:], numbers[:-1], numbers[1:]]
        for more in [1, 2, -1, 10 ** 6]:
            found.append(numbers[:place] + [max(2, numbers[place] + more)] + numbers[place + 1:])
        other = random.randrange(len(numbers))
        changed = list(numbers)
        changed[place], changed[other] = changed[other], changed[place]
        found.append(changed)
        found.append(numbers[:place] + [numbers[place] * 2] + numbers[place + 1:])
        found.append(numbers[:place] + [numbers[place], 2] + numbers[place + 1:])
        found.append(numbers[:place] + [2, numbers[place]] + numbers[place + 1:])
    return found


class PartingRunTest(unittest.TestCase, ErrorChecks):

    def check(self, first, second):
        run = parting_run(first, second)
        if first == second:
            self.assertIsNone(run)
        else:
            self.assertIs(type(run), int)
            self.assertGreaterEqual(run, 0)
            self.assertNotEqual(length_by_taking_away(run, first), length_by_taking_away(run, second))

    def test_all_pairs_of_small_lists(self):
        for first in SMALL:
            for second in SMALL:
                with self.subTest(first=first, second=second):
                    self.check(first, second)

    def test_equal_lists(self):
        random = Random(51)
        for _ in range(50):
            numbers = random_list(random)
            self.assertIsNone(parting_run(numbers, list(numbers)))
            self.assertIsNone(parting_run(numbers, numbers))
        self.assertIsNone(parting_run([], []))

    def test_near_lists(self):
        random = Random(52)
        for _ in range(100):
            numbers = random_list(random)
            for other in near_lists(random, numbers):
                with self.subTest(numbers=numbers, other=other):
                    self.check(numbers, other)
                    self.check(other, numbers)

    def test_the_same_numbers_in_another_order(self):
        random = Random(53)
        for _ in range(200):
            numbers = random_list(random)
            other = random.sample(numbers, len(numbers))
            with self.subTest(numbers=numbers, other=other):
                self.check(numbers, other)

    def test_the_same_product_by_other_numbers(self):
        groups = {}
        for numbers in lists_with_product_up_to(72):
            product = 1
            for number in numbers:
                product *= number
            groups.setdefault(product, []).append(numbers)
        for product in [8, 12, 16, 24, 36, 48, 60, 64, 72]:
            for first in groups[product]:
                for second in groups[product]:
                    with self.subTest(first=first, second=second):
                        self.check(first, second)

    def test_twelve_numbers_up_to_a_million(self):
        random = Random(54)
        for _ in range(100):
            first = [random.randint(10 ** 6 - 50, 10 ** 6) for _ in range(12)]
            second = [random.randint(10 ** 6 - 50, 10 ** 6) for _ in range(12)]
            self.check(first, second)
            self.check(first, first[:11] + second[11:])
            self.check(first, second[:1] + first[1:])
            self.check(first, random.sample(first, 12))
        self.check([10 ** 6] * 12, [10 ** 6] * 11 + [10 ** 6 - 1])
        self.check([10 ** 6] * 11 + [2, 3], [10 ** 6] * 11 + [3, 2])
        self.check([2, 3] + [10 ** 6] * 10, [3, 2] + [10 ** 6] * 10)

    def test_one_list_begins_with_the_other(self):
        for first, second in [([], [2]), ([], [10 ** 6] * 12), ([3, 2], [3, 2, 2]), ([5] * 11, [5] * 12)]:
            self.check(first, second)
            self.check(second, first)

    def test_returned_values_may_be_passed_on(self):
        found = list(best_lists(8))
        for other in found[1:]:
            self.check(found[0], other)

    def test_by_name(self):
        run = parting_run(first=[2, 3], second=[3, 2])
        self.assertNotEqual(length_by_groups(run, [2, 3]), length_by_groups(run, [3, 2]))
        self.assertEqual(parting_run(second=[3, 2], first=[2, 3]), run)
        self.assertIsNone(parting_run(second=[3, 2], first=[3, 2]))

    def test_errors(self):
        for numbers, index in BAD_LISTS:
            with self.subTest(numbers=numbers):
                self.assert_raises_with(InvalidList, index, lambda: parting_run(numbers, [2]))
                self.assert_raises_with(InvalidList, index, lambda: parting_run([2], numbers))
                self.assert_raises_with(InvalidList, index, lambda: parting_run(numbers, list(numbers)))
                self.assert_raises_with(InvalidList, index, lambda: parting_run(second=numbers, first=[]))

    def test_the_first_list_is_checked_first(self):
        self.assert_raises_with(InvalidList, 2, lambda: parting_run([2, 2, 1], [1]))
        self.assert_raises_with(InvalidList, 0, lambda: parting_run([1], [2, 2, 1]))

    def test_the_lists_are_unchanged(self):
        first, second = [6, 3, 2], [2, 3, 6]
        parting_run(first, second)
        parting_run(first, first)
        self.assertEqual([first, second], [[6, 3, 2], [2, 3, 6]])


class CommuteTest(unittest.TestCase, ErrorChecks):

    def test_all_pairs_of_small_lists(self):
        for first in all_lists(1, 4) + all_lists(2, 4) + all_lists(3, 3) + [[]]:
            for second in all_lists(1, 4) + all_lists(2, 4) + all_lists(3, 3) + [[]]:
                product = 1
                for number in first + second:
                    product *= number
                same = all(length_by_groups(run, first + second) == length_by_groups(run, second + first)
                           for run in range(product + 1))
                with self.subTest(first=first, second=second):
                    self.assertIs(commute(first, second), same)

    def test_powers_of_one_list_commute(self):
        for numbers in [[2], [2, 3], [3, 2, 2], [10 ** 6, 5], [2, 3, 2]]:
            for many in range(5):
                for more in range(5):
                    self.assertIs(commute(numbers * many, numbers * more), True)

    def test_others_do_not(self):
        for first, second in [([2], [3]), ([2, 3], [3, 2]), ([2, 3], [2, 3, 2]), ([10 ** 6] * 12, [10 ** 6 - 1]),
                              ([2, 2, 3], [2, 2, 2, 3]), ([2] * 12, [3]), ([4], [2, 4]), ([10 ** 6] * 11 + [2], [2])]:
            self.assertIs(commute(first, second), False)
            self.assertIs(commute(second, first), False)

    def test_the_empty_list_commutes(self):
        for numbers in [[], [2], [6, 3, 2], [10 ** 6] * 12]:
            self.assertIs(commute([], numbers), True)
            self.assertIs(commute(numbers, []), True)
            self.assertIs(commute(numbers, numbers), True)

    def test_by_name(self):
        self.assertIs(commute(first=[2, 3], second=[2, 3, 2, 3]), True)
        self.assertIs(commute(second=[2, 3], first=[3, 2]), False)

    def test_errors(self):
        for numbers, index in BAD_LISTS:
            with self.subTest(numbers=numbers):
                self.assert_raises_with(InvalidList, index, lambda: commute(numbers, [2]))
                self.assert_raises_with(InvalidList, index, lambda: commute([2], numbers))
                self.assert_raises_with(InvalidList, index, lambda: commute(numbers, list(numbers)))
                self.assert_raises_with(InvalidList, index, lambda: commute(second=numbers, first=[]))

    def test_the_first_list_is_checked_first(self):
        self.assert_raises_with(InvalidList, 2, lambda: commute([2, 2, 1], [1]))
        self.assert_raises_with(InvalidList, 0, lambda: commute([1], [2, 2, 1]))

    def test_the_lists_are_unchanged(self):
        first, second = [2, 3], [2, 3, 2, 3]
        commute(first, second)
        commute(first, first)
        self.assertEqual([first, second], [[2, 3], [2, 3, 2, 3]])


class ListOfTest(unittest.TestCase):

    @classmethod
    def setUpClass(cls):
        cls.known = {tuple(origins_by_trying(1, numbers)): numbers for numbers in lists_with_product_up_to(130)}

    def check(self, singles):
        """Asks for lengths of at most 130: all lists that could be the answer are known."""
        with self.subTest(singles=singles):
            self.assertEqual(list_of(singles), self.known.get(tuple(sorted(singles))))

    def test_the_origins_of_1_of_all_small_lists_in_any_order(self):
        random = Random(71)
        for singles, numbers in self.known.items():
            for order in [list(singles), list(singles)[::-1], random.sample(singles, len(singles))]:
                with self.subTest(numbers=numbers):
                    self.assertEqual(list_of(order), numbers)

    def test_runs_left_out(self):
        for singles in self.known:
            for place in range(len(singles)):
                self.check(list(singles[:place] + singles[place + 1:]))

    def test_runs_put_in(self):
        for singles in list(self.known)[::5]:
            for run in range(1, 131):
                if run not in singles:
                    self.check([*singles, run])

    def test_runs_changed(self):
        random = Random(72)
        for singles in self.known:
            for _ in range(4):
                changed = list(singles)
                changed[random.randrange(len(changed))] = random.randint(1, 130)
                if len(set(changed)) == len(changed):
                    self.check(changed)

    def test_all_sets_of_lengths_up_to_10(self):
        for number in range(2 ** 10):
            self.check([run for run in range(1, 11) if number >> (run - 1) & 1])

    def test_no_lengths_and_one_length(self):
        self.assertIsNone(list_of([]))
        self.assertEqual(list_of([1]), [])
        for run in [2, 3, 100, 10 ** 6]:
            self.assertIsNone(list_of([run]))

    def test_two_lengths(self):
        for run in [2, 3, 4, 999999, 10 ** 6]:
            self.assertEqual([list_of([1, run]), list_of([run, 1])], [[run], [run]])
        for pair in [[2, 3], [2, 4], [10 ** 6 - 1, 10 ** 6]]:
            self.assertIsNone(list_of(pair))

    def test_great_lists(self):
        random = Random(73)
        for numbers in [[10 ** 6], [1000, 1000], [2, 500000], [500000, 2], [2] * 11, [2] * 10, [2, 3, 5, 7, 11, 13],
                        [21, 6, 3, 3, 2], [100, 10, 1000], [1000, 10, 100], [30, 3, 3, 2], [3, 3, 3, 3, 2, 2]]:
            singles = list(origins(1, numbers))
            random.shuffle(singles)
            with self.subTest(numbers=numbers):
                self.assertEqual(set(singles), set(origins_by_trying(1, numbers)))
                self.assertEqual(list_of(singles), numbers)
                # Without the greatest one they may be the origins for a shorter list.
                for run in [1, sorted(singles)[-2]]:
                    self.assertIsNone(list_of([single for single in singles if single != run]))
                self.assertIsNone(list_of(singles + [max(singles) + 1]))
                self.assertIsNone(list_of(singles + [max(singles) * 2]))

    def test_many_lengths_that_no_list_has(self):
        random = Random(74)
        for singles in [list(range(1, 2001)), list(range(10 ** 6 - 1999, 10 ** 6 + 1)), list(range(1, 4000, 2)),
                        [1] + list(range(500, 10 ** 6, 501)), random.sample(range(1, 10 ** 6), 2000)]:
            self.assertIsNone(list_of(singles))

    def test_every_list_is_new(self):
        for singles in [[1], [1, 2, 3, 4, 6]]:
            first = list_of(singles)
            expected = list(first)
            first.append(9)
            self.assertEqual(list_of(singles), expected)
        self.assertEqual(singles, [1, 2, 3, 4, 6])

    def test_by_name(self):
        self.assertEqual(list_of(singles=[6, 4, 3, 2, 1]), [3, 2])
        self.assertIsNone(list_of(singles=[1, 2, 5]))

    def test_the_lengths_are_unchanged(self):
        for singles in [[6, 1, 4, 2, 3], [5, 1, 2], [], [1], [7]]:
            kept = list(singles)
            list_of(singles)
            self.assertEqual(singles, kept)


if __name__ == '__main__':
    unittest.main()
