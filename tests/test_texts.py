"""Points 2, 3 and 4 as far as they go: squeezelists/texts.py and squeezelists/readings.py."""

import unittest
from itertools import product
from random import Random

from error_checks import ErrorChecks
from oracles import all_lists, read_by_pattern, shown
from squeezelists.errors import Unreadable
from squeezelists.reaches import best_lists, best_reach
from squeezelists.readings import read_list
from squeezelists.texts import show_list

MOST = 10 ** 200 - 1
SMALL = [numbers for steps in range(5) for numbers in all_lists(steps, 4)]
# Lists and their texts, written out by hand.
WRITTEN = [
    ([], 'none'), ([2], '2'), ([2, 2], '2^2'), ([2] * 3, '2^3'), ([2, 3], '2, 3'), ([2, 2, 3], '2^2, 3'),
    ([2, 3, 3], '2, 3^2'), ([2, 3, 2], '2, 3, 2'), ([21, 3, 3, 2], '21, 3^2, 2'), ([10] * 10, '10^10'),
    ([2] * 100, '2^100'), ([1000000, 2, 2, 1000000], '1000000, 2^2, 1000000'), ([20, 2, 200], '20, 2, 200'),
    ([3] * 99 + [33] * 100 + [3], '3^99, 33^100, 3'), ([12] * 3, '12^3'),
]
NO_TEXTS = [
    # Nothing, signs alone, and spaces
    '', ' ', '^', ',', ', ', '-', '^^', ',,', ' 2', '2 ', '2, ', ', 2', '2,', ',2', '2,3', '2,  3', '2 , 3', '2 ,3',
    '2, , 3', '2,, 3', '2, 3,', '2, 3, ', ' 2, 3', '2, 3 ', '2 3', '2;3', '2. 3', '2  ', '\t2', '2\n', '[2, 3]', '(2)',
    # none
    'none ', ' none', 'None', 'NONE', 'non', 'nonee', 'none, 2', '2, none', 'none^2', 'none, none', 'none,', 'none^',
    # Numbers
    '0', '1', '00', '01', '02', '002', '2, 02', '02, 3', '2, 0', '2, 1', '1, 2', '0, 2', '-2', '+2', '2-', '2+', '2.0',
    '2e3', '0x2', '2_0', '2_000', '1_000', 'x', 'two', '-1', '--2', "'2'", '2a', 'a2', '2, -3', '2, +3', '~2', '2, a',
    # Powers
    '2^', '^2', '2^0', '2^1', '2^00', '2^01', '2^02', '2^002', '2^-2', '2^+2', '2^ 2', '2 ^2', '2 ^ 2', '2^2^2', '2^^2',
    '2^2^', '2^a', '2^2a', '2^2.0', '2^1, 3', '2^0, 3', '3, 2^1', '3, 2^0', '3, 2^', '3, ^2', '0^2', '1^2', '01^2',
    '2*2', '2**2', '2^2 2', '2^1_0', '2^,', '2^, 3', '2^2, ', '2^2,3', '1^1', '0^0', '^, ^', '2^010', '2^1e1',
    # The same number in neighbouring parts
    '3, 3', '2, 2', '2, 3, 3', '3, 3, 2', '2^2, 2', '2, 2^2', '2^2, 2^2', '2^2, 2^3', '5, 2^50, 2^50', '10, 10', '21, 3, 3, 2',
]


class ShowListTest(unittest.TestCase):

    def test_written_by_hand(self):
        for numbers, text in WRITTEN:
            with self.subTest(text=text):
                self.assertEqual(show_list(numbers), text)

    def test_all_small_lists(self):
        for numbers in SMALL:
            self.assertEqual(show_list(numbers), shown(numbers))

    def test_random_lists(self):
        random = Random(41)
        for _ in range(300):
            numbers = []
            for _ in range(random.randint(0, 12)):
                numbers += [random.choice([2, 3, 22, 10 ** 6, random.randint(2, MOST)])] * random.choice([1, 1, 2, 3, 60])
            with self.subTest(numbers=numbers):
                self.assertEqual(show_list(numbers), shown(numbers))

    def test_hundreds_of_numbers_of_200_digits(self):
        for numbers in [[MOST] * 300, [MOST - at for at in range(300)], [MOST, MOST, 10 ** 199] * 200,
                        [10 ** 199 + at // 7 for at in range(700)]]:
            self.assertEqual(show_list(numbers), shown(numbers))

    def test_numbers_about_powers_of_ten(self):
        for digits in range(1, 201):
            for number in [10 ** digits - 1, 10 ** digits, 10 ** digits + 1, 10 ** digits + 10 ** (digits // 2)]:
                self.assertEqual(show_list([number]), str(number))

    def test_numbers_of_any_size(self):
        # Python itself refuses to write numbers of more than 4300 digits.
        self.assertEqual(show_list([10 ** 5000, 10 ** 5000, 7 * 10 ** 4999 + 3]),
                         '1' + '0' * 5000 + '^2, 7' + '0' * 4998 + '3')
        numbers = next(iter(best_lists(8, best_reach(12))))
        parts = show_list(numbers).split(', ')
        self.assertGreater(len(parts[0]), 4300)
        read = [0] * 8
        for place, part in enumerate(parts):
            for at in range(0, len(part), 50):
                piece = part[at:at + 50]
                read[place] = read[place] * 10 ** len(piece) + int(piece)
        self.assertEqual(read, numbers)

    def test_by_name_and_unchanged(self):
        for numbers in [[], [2], [2, 2, 3], [21, 3, 3, 2]]:
            kept = list(numbers)
            self.assertEqual(show_list(replacements=numbers), shown(numbers))
            self.assertEqual(numbers, kept)


class ReadListTest(unittest.TestCase, ErrorChecks):

    def check(self, text):
        """Either the text is read to the list whose text it is, or it is told to be unreadable."""
        numbers = read_by_pattern(text)
        with self.subTest(text=text):
            if numbers is None:
                self.assert_raises_with(Unreadable, text, lambda: read_list(text))
            else:
                self.assertEqual(read_list(text), numbers)
                self.assertEqual(shown(numbers), text)

    def test_written_by_hand(self):
        for numbers, text in WRITTEN:
            with self.subTest(text=text):
                self.assertEqual(read_list(text), numbers)
                self.assertEqual(read_list(text=text), numbers)

    def test_no_list_has_these_texts(self):
        for text in NO_TEXTS:
            with self.subTest(text=text):
                self.assert_raises_with(Unreadable, text, lambda: read_list(text))
                self.assert_raises_with(Unreadable, text, lambda: read_list(text=text))

    def test_what_is_shown_is_read_again(self):
        random = Random(42)
        lists = list(SMALL)
        for _ in range(200):
            numbers = []
            for _ in range(random.randint(0, 12)):
                numbers += [random.choice([2, 3, 22, 10 ** 6, random.randint(2, MOST)])] * random.choice([1, 1, 2, 100])
            lists.append(numbers)
        for numbers in lists:
            with self.subTest(numbers=numbers):
                self.assertEqual(read_list(show_list(numbers)), numbers)

    def test_shown_texts_of_any_length(self):
        for numbers in [[MOST - at for at in range(300)], [MOST] * 300, [2, 3] * 5000, [2] * 50000, [2, 2, 3] * 10000]:
            self.assertEqual(read_list(show_list(numbers)), numbers)

    def test_all_short_texts(self):
        for many in range(6):
            for signs in product('0123^, ', repeat=many):
                self.check(''.join(signs))

    def test_all_short_texts_of_parts(self):
        for many in range(1, 5):
            for parts in product(['2', '3', '12', '^', ', ', 'none', '1', '0'], repeat=many):
                self.check(''.join(parts))

    def test_one_character_put_in_left_out_or_exchanged(self):
        signs = [chr(code) for code in range(32, 127)]
        for text in ['none', '2', '21, 3^2, 2', '2^100, 3', '10, 2^10', '1000000']:
            for at in range(len(text) + 1):
                for sign in signs:
                    self.check(text[:at] + sign + text[at:])
                    self.check(text[:at] + sign + text[at + 1:])
                self.check(text[:at] + text[at + 1:])
                self.check(text[:at])
                self.check(text[at:])

    def test_parts_exchanged_and_put_in(self):
        random = Random(43)
        for _ in range(500):
            numbers = [random.choice([2, 3, 21, 99]) for _ in range(random.randint(1, 8))]
            parts = shown(numbers).split(', ')
            self.check(', '.join(random.sample(parts, len(parts))))
            self.check(', '.join(parts + [random.choice(parts)]))
            self.check(','.join(parts))

    def test_numbers_of_200_and_201_digits(self):
        for number in [MOST, 10 ** 199, 2 * 10 ** 199 + 1]:
            self.assertEqual(read_list(str(number)), [number])
            self.assertEqual(read_list(f'2, {number}^3, 2'), [2, number, number, number, 2])
        for digits in ['1' + '0' * 200, '9' * 201, '0' + '9' * 200, '2' * 202, '1' * 3999, '9' * 4400]:
            for text in [digits, f'{digits}^2', f'2, {digits}', f'{digits}, 2']:
                self.assert_raises_with(Unreadable, text, lambda: read_list(text))
        self.assert_raises_with(Unreadable, '2^' + '9' * 201, lambda: read_list('2^' + '9' * 201))

    def test_powers_at_and_beyond_the_bound(self):
        for many in [2, 3, 9, 10, 11, 99, 100, 101, 200, 1000]:
            self.assertEqual(read_list(f'7^{many}'), [7] * many)

    def test_digits_of_other_scripts(self):
        for text in ['\u0663', '\u00b2', '2^\u00b2', '2, \uff13', '\u0967\u0968']:
            self.assert_raises_with(Unreadable, text, lambda: read_list(text))

    def test_texts_of_4000_characters(self):
        full = ', '.join(['22^100', '333^100'] * 235)
        self.assertLess(len(full), 4001)
        self.assertEqual(read_list(full), ([22] * 100 + [333] * 100) * 235)
        for text in [full + ' ', full + ', 333', ' ' * 4000, '^' * 4000, ',' * 4000, ', ' * 2000, '2' * 4000,
                     '2, ' * 1333, '2, 2' * 1000, 'none' * 1000, full[:-1] + '^']:
            self.assert_raises_with(Unreadable, text, lambda: read_list(text))

    def test_every_list_is_new(self):
        for text in ['none', '2', '21, 3^2, 2']:
            first = read_list(text)
            expected = list(first)
            first.append(9)
            self.assertEqual(read_list(text), expected)


if __name__ == '__main__':
    unittest.main()
