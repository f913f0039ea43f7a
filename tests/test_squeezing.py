"""Point 4, and point 2 as far as it goes: squeezelists/squeezing.py."""

import unittest
from random import Random

from error_checks import BAD_LISTS, ErrorChecks
from oracles import length_by_taking_away, length_sign_by_sign, text_sign_by_sign
from squeezelists.errors import InvalidCharacter, InvalidList, InvalidNumber
from squeezelists.reaches import best_lists, best_reach
from squeezelists.squeezing import squeeze_text, squeezed, stages

LISTS = [
    [], [2], [3], [7], [1000000], [2, 2], [2, 3], [3, 2], [6, 3, 2], [21, 6, 3, 3, 2], [2, 3, 2, 3],
    [5, 5, 5], [40, 2, 40], [2] * 12, [1000000] * 12, [101, 100, 99, 3, 2], [9, 8, 7, 6, 5, 4, 3, 2],
]


class SqueezedTest(unittest.TestCase, ErrorChecks):

    def test_runs_up_to_some_hundred(self):
        for numbers in LISTS:
            for length in range(0, 400):
                with self.subTest(numbers=numbers, length=length):
                    self.assertEqual(squeezed(length, numbers), length_sign_by_sign(length, numbers))

    def test_one_replacement_leaves_quotient_and_remainder(self):
        for number in [2, 3, 6, 21, 1000000]:
            for groups in [0, 1, 2, 10 ** 23, 10 ** 23 + 7]:
                for left in {0, 1, number // 2, number - 1}:
                    with self.subTest(number=number, groups=groups, left=left):
                        self.assertEqual(squeezed(groups * number + left, [number]), groups + left)

    def test_lengths_near_the_bound(self):
        for numbers in LISTS:
            for less in range(1, 40):
                length = 10 ** 30 - less
                with self.subTest(numbers=numbers, less=less):
                    self.assertEqual(squeezed(length, numbers), length_by_taking_away(length, numbers))

    def test_random_lists(self):
        random = Random(4)
        for _ in range(300):
            numbers = [random.randint(2, random.choice([3, 10, 1000, 10 ** 6])) for _ in range(random.randint(0, 12))]
            length = random.randint(0, 10 ** random.randint(1, 30) - 1)
            with self.subTest(numbers=numbers, length=length):
                self.assertEqual(squeezed(length, numbers), length_by_taking_away(length, numbers))

    def test_empty_list_leaves_the_length(self):
        for length in [0, 1, 2, 77, 10 ** 30 - 1]:
            self.assertEqual(squeezed(length, []), length)

    def test_runs_of_length_0_and_1_stay(self):
        for numbers in LISTS:
            self.assertEqual([squeezed(0, numbers), squeezed(1, numbers)], [0, 1])

    def test_the_first_replacement_comes_first(self):
        self.assertEqual([squeezed(4, [2, 3]), squeezed(4, [3, 2])], [2, 1])

    def test_characters_that_are_put_in_are_not_looked_at_again(self):
        self.assertEqual([squeezed(4, [2]), squeezed(9, [3]), squeezed(8, [2, 2])], [2, 3, 2])

    def test_returned_values_may_be_passed_on(self):
        for steps in [10, 12, 14]:
            great = best_reach(steps)
            self.assertEqual(squeezed(great, [2]), great // 2 + great % 2)
        numbers = list(best_lists(8))[-1]
        self.assertEqual(squeezed(best_reach(8), numbers), 1)
        self.assertEqual(squeezed(best_reach(8) + 1, numbers), 2)

    def test_by_name(self):
        self.assertEqual(squeezed(length=20, replacements=[6, 3, 2]), 2)
        self.assertEqual(squeezed(replacements=[6, 3, 2], length=20), 2)

    def test_negative_length(self):
        for length in [-1, -2, -10 ** 30]:
            self.assert_raises_with(InvalidNumber, length, lambda: squeezed(length, [2]))
            self.assert_raises_with(InvalidNumber, length, lambda: squeezed(length=length, replacements=[]))

    def test_bad_lists(self):
        for numbers, index in BAD_LISTS:
            with self.subTest(numbers=numbers):
                self.assert_raises_with(InvalidList, index, lambda: squeezed(0, numbers))
                self.assert_raises_with(InvalidList, index, lambda: squeezed(10, replacements=numbers))

    def test_the_length_is_checked_first(self):
        for numbers, _ in BAD_LISTS:
            self.assert_raises_with(InvalidNumber, -3, lambda: squeezed(-3, numbers))

    def test_the_list_is_unchanged(self):
        numbers = [6, 3, 2]
        squeezed(100, numbers)
        self.assertEqual(numbers, [6, 3, 2])
        bad = [6, 1, 0]
        self.assertRaises(InvalidList, squeezed, 100, bad)
        self.assertEqual(bad, [6, 1, 0])

    def test_no_list_is_remembered(self):
        numbers = [3]
        self.assertEqual(squeezed(6, numbers), 2)
        numbers.append(2)
        self.assertEqual(squeezed(6, numbers), 1)


class SqueezeTextTest(unittest.TestCase, ErrorChecks):

    def test_runs_at_both_ends_and_between(self):
        for numbers in LISTS:
            for text in ['  a  ', '      ', ' ', '', 'a', 'abc', 'a b', ' a', 'a ', '   a    b       c',
                         'x' + ' ' * 461 + 'y' + ' ' * 460, ' ' * 2000, 'ab' * 1000, ' a' * 1000]:
                with self.subTest(numbers=numbers, text=text):
                    self.assertEqual(squeeze_text(text, ' ', numbers), text_sign_by_sign(text, ' ', numbers))

    def test_text_without_the_character(self):
        for numbers in LISTS:
            self.assertEqual(squeeze_text('aabbcc  ', 'x', numbers), 'aabbcc  ')
            self.assertEqual(squeeze_text('', 'x', numbers), '')

    def test_only_the_character_is_squeezed(self):
        self.assertEqual(squeeze_text('aaabbbAAA   ', 'b', [3]), 'aaabAAA   ')
        self.assertEqual(squeeze_text('aaabbbAAA   ', 'a', [3]), 'abbbAAA   ')
        self.assertEqual(squeeze_text('aaabbbAAA   ', 'A', [3]), 'aaabbbA   ')

    def test_runs_do_not_grow_together(self):
        self.assertEqual(squeeze_text('xx xx x', 'x', [2]), 'x x x')
        self.assertEqual(squeeze_text('x xx xxx', 'x', [4, 3]), 'x xx x')

    def test_every_character_from_the_space_to_the_tilde(self):
        signs = [chr(code) for code in range(32, 127)]
        for sign in signs:
            text = sign * 5 + 'a' + sign + 'a' + sign * 12 + '.' + sign * 2 + ''.join(signs) + sign * 3
            for numbers in [[], [2], [3, 2], [5, 3]]:
                with self.subTest(sign=sign, numbers=numbers):
                    self.assertEqual(squeeze_text(text, sign, numbers), text_sign_by_sign(text, sign, numbers))

    def test_characters_that_have_a_meaning_elsewhere(self):
        self.assertEqual(squeeze_text('a....b', '.', [2]), 'a..b')
        self.assertEqual(squeeze_text('\\\\\\\\n', '\\', [2]), '\\\\n')
        self.assertEqual(squeeze_text('%%%s', '%', [3]), '%s')
        self.assertEqual(squeeze_text('{{}}', '{', [2]), '{}}')
        self.assertEqual(squeeze_text("'''", "'", [3]), "'")
        self.assertEqual(squeeze_text('a++b**', '*', [2]), 'a++b*')
        self.assertEqual(squeeze_text('^^a$$', '^', [2]), '^a$$')

    def test_random_texts(self):
        random = Random(5)
        for _ in range(200):
            text = ''.join(random.choice('ab') * random.randint(1, 30) for _ in range(random.randint(0, 40)))
            numbers = [random.randint(2, 9) for _ in range(random.randint(0, 6))]
            with self.subTest(text=text, numbers=numbers):
                self.assertEqual(squeeze_text(text, 'a', numbers), text_sign_by_sign(text, 'a', numbers))

    def test_great_numbers_in_the_list(self):
        self.assertEqual(squeeze_text('a   b', ' ', [10 ** 6]), 'a   b')
        numbers = list(best_lists(8))[0]
        self.assertEqual(squeeze_text('a' + ' ' * 1900 + 'b', ' ', numbers), 'a b')
        self.assertEqual(squeeze_text('a  b', ' ', [best_reach(12), 2]), 'a b')

    def test_empty_list_leaves_the_text(self):
        self.assertEqual(squeeze_text('a    b', ' ', []), 'a    b')

    def test_by_name(self):
        self.assertEqual(squeeze_text(text='a    b', character=' ', replacements=[2]), 'a  b')
        self.assertEqual(squeeze_text(replacements=[2], character=' ', text='a    b'), 'a  b')

    def test_bad_characters(self):
        for character in ['', 'ab', '  ', 'abc', 1, 0, None, True, b'a', ['a'], ('a',), {'a': 1}, 10 ** 30]:
            with self.subTest(character=character):
                self.assert_raises_with(InvalidCharacter, character, lambda: squeeze_text('aa', character, [2]))
                self.assert_raises_with(
                    InvalidCharacter, character, lambda: squeeze_text(text='', character=character, replacements=[]))

    def test_bad_lists(self):
        for numbers, index in BAD_LISTS:
            with self.subTest(numbers=numbers):
                for text in ['', 'abc', 'a   b']:
                    self.assert_raises_with(InvalidList, index, lambda: squeeze_text(text, ' ', numbers))

    def test_the_character_is_checked_first(self):
        for numbers, _ in BAD_LISTS:
            for character in ['', 'ab', 7]:
                self.assert_raises_with(InvalidCharacter, character, lambda: squeeze_text('a', character, numbers))

    def test_the_list_is_unchanged(self):
        numbers = [6, 3, 2]
        squeeze_text(' ' * 30 + 'a' + ' ' * 50, ' ', numbers)
        self.assertEqual(numbers, [6, 3, 2])


class StagesTest(unittest.TestCase, ErrorChecks):

    def test_the_length_after_each_replacement(self):
        for numbers in LISTS:
            for length in range(0, 130):
                with self.subTest(numbers=numbers, length=length):
                    expected = [length_sign_by_sign(length, numbers[:many]) for many in range(len(numbers) + 1)]
                    self.assertEqual(list(stages(length, numbers)), expected)

    def test_lengths_near_the_bound(self):
        for numbers in LISTS:
            length = 10 ** 30 - 1
            expected = [length_by_taking_away(length, numbers[:many]) for many in range(len(numbers) + 1)]
            self.assertEqual(list(stages(length, numbers)), expected)

    def test_empty_list(self):
        for length in [0, 1, 9, 10 ** 30 - 1]:
            self.assertEqual(list(stages(length, [])), [length])

    def test_one_length_after_the_other(self):
        found = stages(11, [6, 3, 2])
        self.assertEqual([next(found), next(found)], [11, 6])
        found.close()
        self.assertEqual(list(stages(11, [6, 3, 2])), [11, 6, 2, 1])

    def test_two_at_once(self):
        first, second = stages(11, [6, 3, 2]), stages(20, [2, 2, 2])
        self.assertEqual(list(zip(first, second)), [(11, 20), (6, 10), (2, 5), (1, 3)])

    def test_returned_values_may_be_passed_on(self):
        self.assertEqual(list(stages(best_reach(9), [2]))[0], best_reach(9))

    def test_by_name(self):
        self.assertEqual(list(stages(length=11, replacements=[6, 3, 2])), [11, 6, 2, 1])

    def test_errors_come_before_the_first_length(self):
        for length in [-1, -10 ** 30]:
            self.assert_raises_with(InvalidNumber, length, lambda: next(iter(stages(length, [2]))))
        for numbers, index in BAD_LISTS:
            with self.subTest(numbers=numbers):
                self.assert_raises_with(InvalidList, index, lambda: next(iter(stages(9, numbers))))
                self.assert_raises_with(InvalidNumber, -1, lambda: next(iter(stages(-1, numbers))))

    def test_the_list_is_unchanged(self):
        numbers = [6, 3, 2]
        list(stages(100, numbers))
        self.assertEqual(numbers, [6, 3, 2])


if __name__ == '__main__':
    unittest.main()
