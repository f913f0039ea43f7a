"""Points 6 and 7, and point 2 as far as it goes: squeezelists/reaches.py."""

import unittest
from itertools import islice
from random import Random

from error_checks import BAD_LISTS, ErrorChecks
from oracles import all_lists, length_by_taking_away, reach_by_trying
from squeezelists.errors import InvalidList, InvalidNumber
from squeezelists.reaches import best_lists, best_reach, fewest_steps, reach

# The greatest reaches for `most` 1, as point 7 lists them.
LISTED_REACHES = [1, 2, 4, 10, 40, 460, 53590]

# Steps, `most`, and a number that is greater than those of all best lists of so many steps.
SMALL_SEARCHES = [
    (0, 1, 2), (0, 4, 2), (1, 1, 8), (1, 2, 8), (1, 3, 8), (1, 4, 9), (1, 9, 14), (1, 10, 15),
    (2, 1, 12), (2, 2, 12), (2, 3, 14), (2, 4, 16), (2, 5, 18), (3, 1, 11), (3, 2, 12), (3, 3, 16), (4, 1, 9),
]


def search(steps, most, greatest):
    """Tries all lists; returns the greatest reach and the lists that have it."""
    found = [(reach_by_trying(numbers, most), numbers) for numbers in all_lists(steps, greatest)]
    top = max(reached for reached, _ in found)
    return top, [numbers for reached, numbers in found if reached == top]


class ReachTest(unittest.TestCase, ErrorChecks):

    def test_all_small_lists_against_trying_all_runs(self):
        for steps, greatest in [(0, 2), (1, 12), (2, 10), (3, 6), (4, 4)]:
            for numbers in all_lists(steps, greatest):
                for most in [1, 2, 3, 4, 5, 8]:
                    with self.subTest(numbers=numbers, most=most):
                        self.assertEqual(reach(numbers, most), reach_by_trying(numbers, most))

    def test_a_replacement_about_as_great_as_the_reach_behind_it(self):
        for most in range(1, 30):
            for number in range(max(2, most - 2), most + 6):
                with self.subTest(number=number, most=most):
                    self.assertEqual(reach([number], most), reach_by_trying([number], most))

    def test_the_next_longer_run_has_more(self):
        random = Random(6)
        for _ in range(400):
            numbers = [random.randint(2, random.choice([3, 9, 200, 10 ** 6])) for _ in range(random.randint(0, 12))]
            most = random.choice([1, 2, 3, random.randint(1, 100), random.randint(1, 10 ** 30 - 1)])
            with self.subTest(numbers=numbers, most=most):
                longest = reach(numbers, most)
                self.assertGreaterEqual(longest, most)
                self.assertGreater(length_by_taking_away(longest + 1, numbers), most)
                for less in [0, 1, 2, 3, 10, longest // 3, longest // 2]:
                    if less <= longest:
                        self.assertLessEqual(length_by_taking_away(longest - less, numbers), most)

    def test_known_reaches(self):
        self.assertEqual(reach([21, 6, 3, 3, 2]), 460)
        self.assertEqual(reach([231, 21, 6, 3, 3, 2]), 53590)
        self.assertEqual([reach([2]), reach([3]), reach([2, 3]), reach([3, 2]), reach([2, 2])], [2, 1, 2, 4, 4])

    def test_most_left_out_is_1(self):
        for numbers in all_lists(3, 5):
            self.assertEqual(reach(numbers), reach(numbers, 1))

    def test_empty_list_reaches_most(self):
        self.assertEqual(reach([]), 1)
        for most in [1, 2, 50, 10 ** 30 - 1]:
            self.assertEqual(reach([], most), most)

    def test_too_great_replacements_change_nothing(self):
        self.assertEqual(reach([10 ** 6] * 12), 1)
        self.assertEqual(reach([10 ** 6, 6, 3, 2], 2), 40)
        self.assertEqual(reach([6, 10 ** 6, 3, 10 ** 6, 2], 2), 40)

    def test_returned_values_may_be_passed_on(self):
        great = best_reach(12)
        self.assertEqual(reach([2], great), (great + 1) * 2 - 2)
        for numbers in best_lists(8):
            self.assertEqual(reach(numbers), best_reach(8))

    def test_by_name(self):
        self.assertEqual(reach([6, 3, 2], most=2), 40)
        self.assertEqual(reach(replacements=[6, 3, 2], most=2), 40)
        self.assertEqual(reach(most=2, replacements=[6, 3, 2]), 40)
        self.assertEqual(reach(replacements=[21, 6, 3, 3, 2]), 460)

    def test_bad_lists(self):
        for numbers, index in BAD_LISTS:
            with self.subTest(numbers=numbers):
                self.assert_raises_with(InvalidList, index, lambda: reach(numbers))
                self.assert_raises_with(InvalidList, index, lambda: reach(replacements=numbers, most=3))

    def test_most_less_than_1(self):
        for most in [0, -1, -10 ** 30]:
            for numbers in [[], [2], [21, 6, 3, 3, 2]]:
                self.assert_raises_with(InvalidNumber, most, lambda: reach(numbers, most))
                self.assert_raises_with(InvalidNumber, most, lambda: reach(numbers, most=most))

    def test_the_list_is_checked_first(self):
        for numbers, index in BAD_LISTS:
            self.assert_raises_with(InvalidList, index, lambda: reach(numbers, 0))

    def test_the_list_is_unchanged(self):
        numbers = [6, 3, 2]
        reach(numbers, 2)
        self.assertEqual(numbers, [6, 3, 2])


class BestReachTest(unittest.TestCase, ErrorChecks):

    def test_the_listed_reaches(self):
        self.assertEqual([best_reach(steps) for steps in range(7)], LISTED_REACHES)

    def test_against_trying_all_lists(self):
        for steps, most, greatest in SMALL_SEARCHES:
            with self.subTest(steps=steps, most=most):
                self.assertEqual(best_reach(steps, most), search(steps, most, greatest)[0])

    def test_steps_0(self):
        for most in [1, 2, 7, 10 ** 30 - 1]:
            self.assertEqual(best_reach(0, most), most)

    def test_one_step_against_all_replacements(self):
        for most in range(1, 60):
            with self.subTest(most=most):
                self.assertEqual(best_reach(1, most), max(reach([k], most) for k in range(2, most + 4)))

    def test_each_step_is_the_best_one_before_the_others(self):
        for most in [1, 2, 3, 4, 5, 10, 11, 10 ** 30 - 1, 10 ** 30 - 2]:
            for steps in range(12):
                behind = best_reach(steps, most)
                with self.subTest(steps=steps, most=most):
                    self.assertEqual(best_reach(steps + 1, most), best_reach(1, behind))
                    middle = (behind + 3) // 2
                    self.assertEqual(
                        best_reach(steps + 1, most), max(reach([k], behind) for k in range(max(2, middle - 3), middle + 5)))

    def test_most_left_out_is_1(self):
        for steps in range(13):
            self.assertEqual(best_reach(steps), best_reach(steps, 1))

    def test_twelve_steps(self):
        self.assertEqual(len(str(best_reach(12))), 265)
        self.assertEqual(best_reach(7), 26796 * 26797 - 2)

    def test_somewhat_more_steps(self):
        self.assertGreater(best_reach(16), best_reach(15) ** 2 // 4)

    def test_by_name(self):
        self.assertEqual(best_reach(steps=6), 53590)
        self.assertEqual(best_reach(steps=3, most=2), 40)
        self.assertEqual(best_reach(most=2, steps=3), 40)
        self.assertEqual(best_reach(3, most=2), 40)

    def test_errors(self):
        for steps in [-1, -2, -10 ** 30]:
            self.assert_raises_with(InvalidNumber, steps, lambda: best_reach(steps))
            self.assert_raises_with(InvalidNumber, steps, lambda: best_reach(steps=steps, most=4))
            self.assert_raises_with(InvalidNumber, steps, lambda: best_reach(steps, 0))
        for most in [0, -1, -10 ** 30]:
            for steps in [0, 1, 12]:
                self.assert_raises_with(InvalidNumber, most, lambda: best_reach(steps, most))
                self.assert_raises_with(InvalidNumber, most, lambda: best_reach(steps, most=most))


class FewestStepsTest(unittest.TestCase, ErrorChecks):

    def test_against_trying_all_lists(self):
        for most in [1, 2, 3]:
            tops = [search(steps, most, greatest)[0] for steps, greatest in [(0, 2), (1, 8), (2, 14), (3, 16)]]
            for length in range(0, tops[-1] + 1):
                with self.subTest(length=length, most=most):
                    expected = min(steps for steps, top in enumerate(tops) if top >= length)
                    self.assertEqual(fewest_steps(length, most), expected)

    def test_one_more_than_a_best_reach_needs_one_more_step(self):
        for most in [1, 2, 3, 4, 9, 10 ** 30 - 1]:
            for steps in range(14):
                with self.subTest(steps=steps, most=most):
                    self.assertEqual(fewest_steps(best_reach(steps, most), most), steps)
                    self.assertEqual(fewest_steps(best_reach(steps, most) + 1, most), steps + 1)

    def test_the_listed_reaches(self):
        for steps, top in enumerate(LISTED_REACHES):
            self.assertEqual([fewest_steps(top), fewest_steps(top + 1)], [steps, steps + 1])

    def test_lengths_0_and_1(self):
        for most in [1, 2, 10 ** 30 - 1]:
            self.assertEqual([fewest_steps(0, most), fewest_steps(1, most)], [0, 0])
        self.assertEqual([fewest_steps(0), fewest_steps(1), fewest_steps(2), fewest_steps(3)], [0, 0, 1, 2])

    def test_length_up_to_most_needs_no_step(self):
        self.assertEqual([fewest_steps(7, 7), fewest_steps(7, 8), fewest_steps(8, 7)], [0, 0, 1])

    def test_great_lengths(self):
        self.assertEqual(fewest_steps(10 ** 30 - 1), 9)
        self.assertEqual(fewest_steps(10 ** 30 - 1, 10 ** 30 - 2), 1)

    def test_most_left_out_is_1(self):
        for length in range(500):
            self.assertEqual(fewest_steps(length), fewest_steps(length, 1))

    def test_by_name(self):
        self.assertEqual(fewest_steps(length=100), 5)
        self.assertEqual(fewest_steps(length=41, most=2), 4)
        self.assertEqual(fewest_steps(most=2, length=40), 3)
        self.assertEqual(fewest_steps(40, most=2), 3)

    def test_errors(self):
        for length in [-1, -10 ** 30]:
            self.assert_raises_with(InvalidNumber, length, lambda: fewest_steps(length))
            self.assert_raises_with(InvalidNumber, length, lambda: fewest_steps(length=length, most=2))
            self.assert_raises_with(InvalidNumber, length, lambda: fewest_steps(length, 0))
        for most in [0, -7, -10 ** 30]:
            for length in [0, 1, 10 ** 30 - 1]:
                self.assert_raises_with(InvalidNumber, most, lambda: fewest_steps(length, most))
                self.assert_raises_with(InvalidNumber, most, lambda: fewest_steps(length, most=most))


class BestListsTest(unittest.TestCase, ErrorChecks):

    def test_against_trying_all_lists(self):
        for steps, most, greatest in SMALL_SEARCHES:
            with self.subTest(steps=steps, most=most):
                self.assertEqual(list(best_lists(steps, most)), search(steps, most, greatest)[1])

    def test_one_step_against_all_replacements(self):
        for most in range(1, 60):
            reaches = {k: reach_by_trying([k], most) for k in range(2, most + 4)}
            top = max(reaches.values())
            with self.subTest(most=most):
                self.assertEqual(list(best_lists(1, most)), [[k] for k in reaches if reaches[k] == top])

    def test_steps_0(self):
        for most in [1, 2, 10 ** 30 - 1]:
            self.assertEqual(list(best_lists(0, most)), [[]])
        self.assertEqual(list(best_lists(0)), [[]])

    def test_order_and_reach_of_many_lists(self):
        for steps in range(9):
            for most in [1, 2, 3, 4, 5, 10 ** 30 - 1]:
                found = list(best_lists(steps, most))
                with self.subTest(steps=steps, most=most):
                    self.assertEqual(found, sorted(found))
                    self.assertEqual(len(found), len(set(map(tuple, found))))
                    self.assertEqual({reach(numbers, most) for numbers in found}, {best_reach(steps, most)})
                    self.assertEqual({len(numbers) for numbers in found}, {steps})

    def test_the_number_of_lists(self):
        self.assertEqual([len(list(best_lists(steps))) for steps in range(9)], [1, 1, 2, 4, 8, 16, 32, 64, 128])
        self.assertEqual(len(list(best_lists(8, 2))), 256)

    def test_odd_reaches_have_one_best_replacement(self):
        self.assertEqual(list(best_lists(1, 3)), [[3]])
        self.assertEqual(list(best_lists(2, 3)), [[5, 3]])

    def test_stopping_early(self):
        found = best_lists(8)
        self.assertEqual(next(iter(found)), [359026206, 26796, 231, 21, 6, 3, 2, 2])
        found.close()
        self.assertEqual(list(islice(best_lists(8), 2))[1][-3:], [3, 3, 2])
        self.assertEqual(len(list(best_lists(8))), 128)

    def test_stopping_early_beyond_the_bound(self):
        first = next(iter(best_lists(20)))
        self.assertEqual(len(first), 20)
        self.assertEqual(first[-5:], [21, 6, 3, 2, 2])

    def test_two_at_once(self):
        pairs = list(zip(best_lists(2), best_lists(3)))
        self.assertEqual(pairs, [([2, 2], [3, 2, 2]), ([3, 2], [3, 3, 2])])

    def test_most_left_out_is_1(self):
        for steps in range(7):
            self.assertEqual(list(best_lists(steps)), list(best_lists(steps, 1)))

    def test_every_list_is_new(self):
        found = []
        for numbers in best_lists(4):
            found.append(list(numbers))
            numbers.clear()
            numbers.append(99)
        self.assertEqual(found, list(best_lists(4)))
        kept = list(best_lists(4))
        self.assertEqual(len({id(numbers) for numbers in kept}), len(kept))
        empty = next(iter(best_lists(0)))
        empty.append(5)
        self.assertEqual(list(best_lists(0)), [[]])

    def test_by_name(self):
        self.assertEqual(list(best_lists(steps=2)), [[2, 2], [3, 2]])
        self.assertEqual(list(best_lists(steps=1, most=2)), [[2], [3]])
        self.assertEqual(list(best_lists(most=2, steps=1)), [[2], [3]])
        self.assertEqual(list(best_lists(1, most=2)), [[2], [3]])

    def test_errors_come_before_the_first_list(self):
        for steps in [-1, -10 ** 30]:
            self.assert_raises_with(InvalidNumber, steps, lambda: next(iter(best_lists(steps))))
            self.assert_raises_with(InvalidNumber, steps, lambda: next(iter(best_lists(steps=steps, most=2))))
            self.assert_raises_with(InvalidNumber, steps, lambda: next(iter(best_lists(steps, 0))))
        for most in [0, -1, -10 ** 30]:
            for steps in [0, 1, 8]:
                self.assert_raises_with(InvalidNumber, most, lambda: next(iter(best_lists(steps, most))))
                self.assert_raises_with(InvalidNumber, most, lambda: next(iter(best_lists(steps, most=most))))


if __name__ == '__main__':
    unittest.main()
