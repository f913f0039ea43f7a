"""Points 4 and 5, and points 2 and 3 as far as they go: squeezelists/hidden.py."""

import unittest
from itertools import permutations
from random import Random

from error_checks import BAD_LISTS, ErrorChecks
from oracles import all_lists, length_by_taking_away, length_sign_by_sign, lists_with_product_up_to
from squeezelists.errors import InvalidList, InvalidNumber
from squeezelists.hidden import HiddenList, find

LISTS = [
    [], [2], [3], [1000000], [2, 2], [2, 3], [3, 2], [6, 3, 2], [21, 6, 3, 3, 2], [2, 3, 2, 3], [40] * 6,
    [2] * 12, [1000000] * 12, [101, 100, 99, 3, 2],
]


class Listening(HiddenList):
    """A hidden list that notes what it is asked for."""

    def __init__(self, replacements):
        super().__init__(replacements)
        self.asked = []

    def ask(self, length):
        self.asked.append(length)
        return super().ask(length)


class HiddenListTest(unittest.TestCase, ErrorChecks):

    def test_answers_are_lengths_afterwards(self):
        for numbers in LISTS:
            hidden = HiddenList(numbers)
            for length in range(0, 200):
                with self.subTest(numbers=numbers, length=length):
                    self.assertEqual(hidden.ask(length), length_sign_by_sign(length, numbers))

    def test_lengths_near_the_bound(self):
        random = Random(21)
        for numbers in LISTS:
            hidden = HiddenList(numbers)
            lengths = [10 ** 30 - less for less in range(1, 30)]
            lengths += [random.randrange(10 ** random.randint(1, 30)) for _ in range(30)]
            for length in lengths:
                with self.subTest(numbers=numbers, length=length):
                    self.assertEqual(hidden.ask(length), length_by_taking_away(length, numbers))

    def test_lengths_0_and_1(self):
        for numbers in LISTS:
            hidden = HiddenList(numbers)
            self.assertEqual([hidden.ask(0), hidden.ask(1)], [0, 1])

    def test_questions_count_answers(self):
        for numbers in LISTS:
            hidden = HiddenList(numbers)
            self.assertEqual(hidden.questions, 0)
            for many in range(1, 100):
                hidden.ask(many * 3)
                self.assertEqual(hidden.questions, many)
            # The same question counts again.
            hidden.ask(3)
            self.assertEqual(hidden.questions, 100)
            self.assertEqual(hidden.questions, 100)

    def test_questions_that_raise_do_not_count(self):
        hidden = HiddenList([3, 2])
        for length in [-1, -2, -10 ** 30]:
            self.assert_raises_with(InvalidNumber, length, lambda: hidden.ask(length))
            self.assert_raises_with(InvalidNumber, length, lambda: hidden.ask(length=length))
            self.assertEqual(hidden.questions, 0)
        self.assertEqual(hidden.ask(11), 3)
        self.assert_raises_with(InvalidNumber, -5, lambda: hidden.ask(-5))
        self.assertEqual(hidden.questions, 1)
        self.assertEqual(hidden.ask(11), 3)
        self.assertEqual(hidden.questions, 2)

    def test_two_objects_apart(self):
        numbers = [3, 2]
        first, second = HiddenList(numbers), HiddenList(numbers)
        third = HiddenList([2, 3])
        first.ask(5)
        first.ask(4)
        self.assertEqual([third.ask(4), first.ask(4)], [2, 1])
        self.assertRaises(InvalidNumber, second.ask, -1)
        self.assertEqual([first.questions, second.questions, third.questions], [3, 0, 1])

    def test_the_list_may_be_changed_afterwards(self):
        numbers = [3, 2]
        hidden = HiddenList(numbers)
        numbers.append(5)
        numbers[0] = 4
        self.assertEqual([hidden.ask(length) for length in [4, 5, 6, 30]], [1, 2, 1, 5])
        numbers.clear()
        self.assertEqual(hidden.ask(30), 5)
        self.assertEqual(find(hidden, 6, 40), [3, 2])

    def test_the_list_is_unchanged(self):
        numbers = [3, 2]
        hidden = HiddenList(numbers)
        hidden.ask(100)
        find(hidden, 3, 10)
        self.assertEqual(numbers, [3, 2])

    def test_by_name(self):
        self.assertEqual(HiddenList(replacements=[3, 2]).ask(length=5), 2)

    def test_bad_lists(self):
        for numbers, index in BAD_LISTS:
            with self.subTest(numbers=numbers):
                self.assert_raises_with(InvalidList, index, lambda: HiddenList(numbers))
                self.assert_raises_with(InvalidList, index, lambda: HiddenList(replacements=numbers))


class FindTest(unittest.TestCase):

    def check(self, numbers, steps=6, greatest=40):
        with self.subTest(numbers=numbers, steps=steps, greatest=greatest):
            hidden = Listening(numbers)
            self.assertEqual(find(hidden, steps, greatest), numbers)
            self.assertLessEqual(len(hidden.asked), 400)
            self.assertEqual(hidden.questions, len(hidden.asked))
            self.assertTrue(all(0 <= length < 10 ** 30 for length in hidden.asked))

    def check_bounds(self, numbers):
        """Looks for a list with bounds that are just enough, and with greater ones."""
        for steps in sorted({len(numbers), min(len(numbers) + 1, 6), 6}):
            least = max(numbers, default=2)
            for greatest in sorted({least, min(least + 1, 40), 40}):
                self.check(numbers, steps, greatest)

    def test_all_small_lists(self):
        for numbers in lists_with_product_up_to(60):
            if len(numbers) <= 6 and max(numbers, default=2) <= 40:
                self.check_bounds(numbers)
        for steps in range(5):
            for numbers in all_lists(steps, 5):
                self.check(numbers)
        for numbers in all_lists(6, 3):
            self.check(numbers)

    def test_one_and_two_replacements(self):
        for number in range(2, 41):
            self.check_bounds([number])
            for other in range(2, 41):
                self.check([number, other])
                self.check([number, other], 2, max(number, other))

    def test_equal_replacements(self):
        for number in [2, 3, 4, 13, 24, 36, 37, 39, 40]:
            for steps in range(7):
                self.check_bounds([number] * steps)

    def test_the_empty_list(self):
        for steps in range(7):
            for greatest in [2, 3, 40]:
                self.check([], steps, greatest)

    def test_the_same_numbers_in_each_order(self):
        for numbers in [[2, 3, 4, 6, 12, 24], [40, 20, 10, 8, 5, 4], [2, 2, 2, 4, 4, 8], [36, 40, 30, 24, 2, 3],
                        [31, 37, 29, 23, 19, 17]]:
            for order in sorted(set(permutations(numbers)))[::7]:
                self.check(list(order))

    def test_numbers_with_many_factors_at_the_greatest_bound(self):
        random = Random(22)
        for _ in range(500):
            self.check([random.choice([24, 30, 36, 39, 40, 32, 37]) for _ in range(6)])

    def test_random_lists(self):
        random = Random(23)
        for _ in range(1500):
            greatest = random.choice([2, 3, 6, 12, 40])
            numbers = [random.randint(2, greatest) for _ in range(random.randint(0, 6))]
            self.check(numbers)
            self.check(numbers, len(numbers), greatest)

    def test_somewhat_beyond_the_bounds(self):
        random = Random(24)
        for _ in range(50):
            numbers = [random.randint(2, 50) for _ in range(random.randint(0, 8))]
            self.assertEqual(find(HiddenList(numbers), 8, 50), numbers)

    def test_lists_that_were_asked_before(self):
        hidden = HiddenList([21, 6, 3, 3, 2])
        for length in range(70):
            hidden.ask(length)
        self.assertRaises(InvalidNumber, hidden.ask, -1)
        self.assertEqual(find(hidden, 6, 40), [21, 6, 3, 3, 2])
        self.assertLessEqual(hidden.questions, 470)

    def test_looked_for_twice(self):
        for numbers in [[], [2], [40] * 6, [21, 6, 3, 3, 2]]:
            hidden = HiddenList(numbers)
            first = find(hidden, 6, 40)
            once = hidden.questions
            self.assertEqual(first, numbers)
            first.append(7)
            self.assertEqual(find(hidden, 6, 40), numbers)
            self.assertLessEqual(hidden.questions - once, 400)

    def test_the_hidden_list_answers_as_before(self):
        for numbers in [[], [3, 2], [21, 6, 3, 3, 2]]:
            hidden = HiddenList(numbers)
            before = [hidden.ask(length) for length in range(100)]
            found = find(hidden, 6, 40)
            found.append(2)
            asked = hidden.questions
            self.assertEqual([hidden.ask(length) for length in range(100)], before)
            self.assertEqual(hidden.questions, asked + 100)

    def test_by_name(self):
        self.assertEqual(find(hidden=HiddenList([3, 2]), steps=6, greatest=40), [3, 2])
        self.assertEqual(find(greatest=3, hidden=HiddenList([3, 2]), steps=2), [3, 2])


if __name__ == '__main__':
    unittest.main()
