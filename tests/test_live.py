"""Points 4, 6 and 7, and points 2 and 3 as far as they go: squeezelists/live.py."""

import unittest
from random import Random

from error_checks import BAD_LISTS, ErrorChecks
from oracles import runs_sign_by_sign, text_sign_by_sign
from squeezelists.errors import InvalidCharacter, InvalidList, NothingToUndo
from squeezelists.live import SqueezedText
from squeezelists.reaches import best_lists, best_reach, fewest_steps, reach
from squeezelists.squeezing import squeeze_text

TEXTS = [
    '', ' ', 'a', '  a  ', 'abc', ' a', 'a ', '      ', 'a     b', 'x    y', '   a    b       c', ' ' * 2000,
    'a' * 2000, ' a' * 1000, 'x' + ' ' * 461 + 'y' + ' ' * 460, 'aa  ' * 500,
    ''.join(' ' * many + 'b' for many in range(60)),
]
BAD_CHARACTERS = ['', 'ab', '  ', 'abc', 1, 0, None, True, b'a', ['a'], ('a',), {'a': 1}, 10 ** 30]


class LiveChecks(ErrorChecks):

    def check(self, live, start, character, numbers):
        """Compares all that an object tells with replacing from left to right."""
        text = text_sign_by_sign(start, character, numbers)
        runs = runs_sign_by_sign(text, character)
        self.assertEqual(live.text, text)
        self.assertEqual(live.replacements, numbers)
        self.assertEqual(live.longest, max(runs, default=0))
        self.assertEqual(list(live.runs()), runs)

    def told(self, live):
        return live.text, live.replacements, live.longest, list(live.runs())


class SqueezeTest(unittest.TestCase, LiveChecks):

    def test_at_the_start(self):
        for text in TEXTS:
            for character in [' ', 'a', 'x']:
                with self.subTest(text=text, character=character):
                    self.check(SqueezedText(text, character), text, character, [])

    def test_one_by_one_and_in_one_call(self):
        for text in TEXTS:
            for character in [' ', 'a']:
                for numbers in [[2], [3, 2], [6, 3, 2], [2, 2, 2], [21, 6, 3, 3, 2], [40, 2, 10 ** 6, 3], [2] * 12]:
                    with self.subTest(text=text, character=character, numbers=numbers):
                        live, other = SqueezedText(text, character), SqueezedText(text, character)
                        for many, number in enumerate(numbers):
                            self.assertIsNone(live.squeeze(number))
                            self.check(live, text, character, numbers[:many + 1])
                        self.assertIsNone(other.squeeze(*numbers))
                        self.check(other, text, character, numbers)
                        self.assertEqual(live, other)

    def test_without_arguments(self):
        live = SqueezedText('a     b', ' ')
        self.assertIsNone(live.squeeze())
        self.check(live, 'a     b', ' ', [])
        live.squeeze(3)
        self.assertIsNone(live.squeeze())
        self.check(live, 'a     b', ' ', [3])
        live.undo()
        self.check(live, 'a     b', ' ', [])

    def test_replacements_without_effect_are_kept(self):
        live = SqueezedText('a   b', ' ')
        live.squeeze(4, 10 ** 6, 3, 3, 2)
        self.check(live, 'a   b', ' ', [4, 10 ** 6, 3, 3, 2])
        for many in [4, 3, 2, 1, 0]:
            live.undo()
            self.check(live, 'a   b', ' ', [4, 10 ** 6, 3, 3, 2][:many])

    def test_runs_of_the_length_of_the_replacement(self):
        for number in [2, 3, 7]:
            for more in [-1, 0, 1]:
                text = 'a' + ' ' * (number + more) + 'b'
                live = SqueezedText(text, ' ')
                live.squeeze(number)
                self.check(live, text, ' ', [number])

    def test_200_replacements_and_undone_a_hundred_times(self):
        random = Random(31)
        numbers = [random.choice([2, 3, 5, 50, 400, 10 ** 6]) for _ in range(200)]
        numbers[:3] = [1500, 200, 60]
        for text in [' ' * 1999 + 'a', 'a  ' * 600, 'abc']:
            live = SqueezedText(text, ' ')
            live.squeeze(*numbers)
            self.check(live, text, ' ', numbers)
            for many in range(199, 99, -1):
                self.assertIsNone(live.undo())
                self.assertEqual(live.replacements, numbers[:many])
            self.check(live, text, ' ', numbers[:100])
            live = SqueezedText(text, ' ')
            for number in numbers[:50]:
                live.squeeze(number)
            for many in range(49, -1, -1):
                live.undo()
                self.check(live, text, ' ', numbers[:many])

    def test_random_walks(self):
        random = Random(32)
        for _ in range(60):
            text = ''.join(random.choice('ab ') * random.randint(1, 60) for _ in range(random.randint(0, 30)))
            character = random.choice('ab x')
            live = SqueezedText(text, character)
            numbers = []
            for _ in range(30):
                if random.random() < 0.4:
                    if numbers:
                        live.undo()
                        numbers.pop()
                    else:
                        self.assert_raises_with(NothingToUndo, 0, live.undo)
                else:
                    more = [random.choice([2, 3, 4, 7, 30, 61]) for _ in range(random.randint(0, 3))]
                    live.squeeze(*more)
                    numbers += more
                self.check(live, text, character, numbers)

    def test_characters_that_have_a_meaning_elsewhere(self):
        for sign in map(chr, range(32, 127)):
            text = sign * 5 + 'aB' + sign + 'aB' + sign * 12 + '.' + sign * 2
            live = SqueezedText(text, sign)
            live.squeeze(5, 2)
            with self.subTest(sign=sign):
                self.check(live, text, sign, [5, 2])

    def test_two_objects_apart(self):
        first, second = SqueezedText('a    b', ' '), SqueezedText('a    b', ' ')
        first.squeeze(2)
        self.check(second, 'a    b', ' ', [])
        second.squeeze(3, 2)
        first.undo()
        self.check(first, 'a    b', ' ', [])
        self.check(second, 'a    b', ' ', [3, 2])

    def test_by_name(self):
        live = SqueezedText(character=' ', text='a    b')
        live.squeeze(2)
        self.check(live, 'a    b', ' ', [2])

    def test_bad_numbers(self):
        for numbers, index in BAD_LISTS:
            for before in [[], [3], [2, 2]]:
                with self.subTest(numbers=numbers, before=before):
                    live = SqueezedText(' ' * 30 + 'a' + ' ' * 50, ' ')
                    live.squeeze(*before)
                    told = self.told(live)
                    self.assert_raises_with(InvalidList, index, lambda: live.squeeze(*numbers))
                    self.assertEqual(self.told(live), told)
                    # The call has left nothing that could be undone.
                    for many in range(len(before), 0, -1):
                        live.undo()
                        self.check(live, ' ' * 30 + 'a' + ' ' * 50, ' ', before[:many - 1])
                    self.assert_raises_with(NothingToUndo, 0, live.undo)

    def test_bad_characters(self):
        for character in BAD_CHARACTERS:
            for text in ['', 'a', 'a   b']:
                with self.subTest(character=character, text=text):
                    self.assert_raises_with(InvalidCharacter, character, lambda: SqueezedText(text, character))
                    self.assert_raises_with(
                        InvalidCharacter, character, lambda: SqueezedText(text=text, character=character))


class UndoTest(unittest.TestCase, LiveChecks):

    def test_the_last_replacement_not_the_last_call(self):
        live = SqueezedText(' ' * 100, ' ')
        live.squeeze(5, 4, 3)
        live.squeeze(2, 2)
        for many in [4, 3, 2, 1, 0]:
            self.assertIsNone(live.undo())
            self.check(live, ' ' * 100, ' ', [5, 4, 3, 2, 2][:many])

    def test_nothing_to_undo(self):
        for text in TEXTS:
            live = SqueezedText(text, ' ')
            for _ in range(3):
                self.assert_raises_with(NothingToUndo, 0, live.undo)
                self.check(live, text, ' ', [])
            live.squeeze()
            self.assert_raises_with(NothingToUndo, 0, live.undo)
            live.squeeze(2)
            live.undo()
            self.assert_raises_with(NothingToUndo, 0, live.undo)
            self.check(live, text, ' ', [])

    def test_squeezed_again_after_undo(self):
        live = SqueezedText('a         b', ' ')
        live.squeeze(4, 3)
        live.undo()
        live.squeeze(2)
        self.check(live, 'a         b', ' ', [4, 2])
        live.undo()
        live.undo()
        live.squeeze(3)
        self.check(live, 'a         b', ' ', [3])


class RunsTest(unittest.TestCase, LiveChecks):

    def test_from_left_to_right(self):
        self.assertEqual(list(SqueezedText('   a b  c    ', ' ').runs()), [3, 1, 2, 4])
        self.assertEqual(list(SqueezedText('a b', ' ').runs()), [1])
        self.assertEqual(list(SqueezedText('', ' ').runs()), [])
        self.assertEqual(list(SqueezedText('abc', ' ').runs()), [])
        self.assertEqual(list(SqueezedText('    ', ' ').runs()), [4])

    def test_runs_are_yielded(self):
        found = SqueezedText('   a b  c    ', ' ').runs()
        self.assertIs(iter(found), found)
        self.assertEqual([next(found), next(found)], [3, 1])
        found.close()

    def test_two_walks_at_once(self):
        live = SqueezedText('   a b  c    ', ' ')
        first, second = live.runs(), live.runs()
        self.assertEqual([next(first), next(first), next(second)], [3, 1, 3])
        self.assertEqual([list(first), list(second)], [[2, 4], [1, 2, 4]])
        self.assertEqual([(one, other) for one in live.runs() for other in live.runs()],
                         [(one, other) for one in [3, 1, 2, 4] for other in [3, 1, 2, 4]])

    def test_after_stopping_early(self):
        live = SqueezedText('   a b  c    ', ' ')
        for length in live.runs():
            if length == 1:
                break
        live.squeeze(2)
        self.assertEqual(list(live.runs()), [2, 1, 1, 2])

    def test_reading_during_a_walk(self):
        live = SqueezedText('   a b  c    ', ' ')
        found = []
        for length in live.runs():
            found.append((length, live.longest, live.text, live.replacements))
        self.assertEqual(found, [(length, 4, '   a b  c    ', []) for length in [3, 1, 2, 4]])


class ReplacementsTest(unittest.TestCase, LiveChecks):

    def test_the_caller_may_change_the_list(self):
        live = SqueezedText('a     b', ' ')
        live.squeeze(3, 2)
        for change in [lambda numbers: numbers.append(5), lambda numbers: numbers.clear(), lambda numbers: numbers.pop()]:
            change(live.replacements)
            self.check(live, 'a     b', ' ', [3, 2])
        self.assertIsNot(live.replacements, live.replacements)

    def test_a_list_stays_as_it_was_returned(self):
        live = SqueezedText('a     b', ' ')
        none = live.replacements
        live.squeeze(3, 2)
        two = live.replacements
        live.undo()
        one = live.replacements
        live.squeeze(4)
        self.assertEqual([none, two, one], [[], [3, 2], [3]])

    def test_lists_of_single(self):
        live = SqueezedText.single('x    y', ' ')
        live.replacements.append(9)
        self.check(live, 'x    y', ' ', [2, 2])
        again = SqueezedText.single('x    y', ' ')
        live.undo()
        self.check(again, 'x    y', ' ', [2, 2])


class EqualityTest(unittest.TestCase):

    def assert_equal(self, first, second):
        self.assertIs(first == second, True)
        self.assertIs(first != second, False)

    def assert_unequal(self, first, second):
        self.assertIs(first == second, False)
        self.assertIs(second == first, False)
        self.assertIs(first != second, True)
        self.assertIs(second != first, True)

    def made(self, text, character, *numbers):
        live = SqueezedText(text, character)
        live.squeeze(*numbers)
        return live

    def test_the_same(self):
        for text in TEXTS:
            for numbers in [[], [2], [3, 2], [10 ** 6, 2, 2]]:
                self.assert_equal(self.made(text, ' ', *numbers), self.made(text, ' ', *numbers))
        live = self.made('a  b', ' ', 2)
        self.assert_equal(live, live)

    def test_other_texts_at_the_start(self):
        self.assert_unequal(self.made('a', ' '), self.made('b', ' '))
        self.assert_unequal(self.made('', ' '), self.made(' ', ' '))
        # The present texts are the same here.
        self.assert_unequal(self.made('a  b', ' ', 2), self.made('a b', ' ', 2))
        self.assert_unequal(self.made('a   b', ' ', 3), self.made('a b', ' ', 3))

    def test_other_characters(self):
        self.assert_unequal(self.made('abc', 'a'), self.made('abc', 'b'))
        self.assert_unequal(self.made('', 'a'), self.made('', 'A'))
        self.assert_unequal(self.made('abc', 'x', 2), self.made('abc', 'y', 2))

    def test_other_replacements(self):
        # The present texts are the same in all of these.
        self.assert_unequal(self.made('a', ' '), self.made('a', ' ', 2))
        self.assert_unequal(self.made('a', ' ', 3), self.made('a', ' ', 2))
        self.assert_unequal(self.made('a', ' ', 3, 2), self.made('a', ' ', 2, 3))
        self.assert_unequal(self.made('a', ' ', 2), self.made('a', ' ', 2, 2))
        self.assert_unequal(self.made('a   b', ' ', 3), self.made('a   b', ' ', 2, 2))

    def test_the_way_does_not_matter(self):
        first = SqueezedText('a         b', ' ')
        first.squeeze(4)
        first.squeeze(3, 2)
        first.undo()
        self.assert_equal(first, self.made('a         b', ' ', 4, 3))
        first.undo()
        first.undo()
        self.assert_equal(first, SqueezedText('a         b', ' '))
        self.assertRaises(NothingToUndo, first.undo)
        self.assertRaises(InvalidList, first.squeeze, 2, 1)
        self.assert_equal(first, SqueezedText('a         b', ' '))
        self.assert_equal(SqueezedText.single('x    y', ' '), self.made('x    y', ' ', 2, 2))
        self.assert_unequal(SqueezedText.single('x    y', ' '), self.made('x    y', ' ', 3, 2))

    def test_values_of_other_kinds(self):
        live = self.made('a  b', ' ', 2)
        for other in ['a b', 'a  b', ' ', '', None, 0, 2, True, [2], [], ('a  b', ' ', [2]), {}, b'a b', object(),
                      SqueezedText, 1.5, ['a  b', ' ', [2]], NotImplemented, ValueError('a b')]:
            with self.subTest(other=other):
                self.assert_unequal(live, other)

    def test_objects_with_the_same_attributes(self):
        class Other:
            pass

        live = self.made('a  b', ' ', 2)
        other = Other()
        vars(other).update(vars(live))
        self.assert_unequal(live, other)

    def test_objects_that_are_equal_to_everything(self):
        class Everything:
            def __eq__(self, other):
                return True

        live = self.made('a  b', ' ', 2)
        self.assertIs(live == Everything(), False)
        self.assertIs(live != Everything(), True)

    def test_in_lists(self):
        lives = [self.made('a  b', ' ', 2), 'a b', self.made('a  b', ' ')]
        self.assertIn(SqueezedText('a  b', ' '), lives)
        self.assertNotIn(SqueezedText('a b', ' '), lives)
        self.assertEqual(lives.index(SqueezedText('a  b', ' ')), 2)

    def test_comparing_changes_nothing(self):
        first, second = self.made('a  b', ' ', 2), self.made('a  b', ' ', 3)
        self.assertFalse(first == second)
        self.assertTrue(first != second)
        self.assertEqual([first.replacements, second.replacements, first.text, second.text], [[2], [3], 'a b', 'a  b'])


class SingleTest(unittest.TestCase, LiveChecks):

    def check_single(self, text, character):
        with self.subTest(text=text, character=character):
            live = SqueezedText.single(text, character)
            self.assertIs(type(live), SqueezedText)
            longest = max(runs_sign_by_sign(text, character), default=0)
            numbers = live.replacements
            self.assertEqual(len(numbers), fewest_steps(longest))
            self.assertEqual(numbers, next(iter(best_lists(len(numbers)))))
            self.assertEqual(reach(numbers), best_reach(len(numbers)))
            self.check(live, text, character, numbers)
            self.assertLessEqual(live.longest, 1)
            self.assertEqual(live.text, squeeze_text(text, character, numbers))
            while numbers:
                live.undo()
                numbers.pop()
                self.check(live, text, character, numbers)
            self.assert_raises_with(NothingToUndo, 0, live.undo)
            self.assertEqual(live, SqueezedText(text, character))

    def test_texts(self):
        for text in TEXTS:
            for character in [' ', 'a', '~']:
                self.check_single(text, character)

    def test_longest_runs_about_each_reach(self):
        # One replacement more is needed behind each of these lengths.
        for longest in [0, 1, 2, 3, 4, 5, 9, 10, 11, 39, 40, 41, 459, 460, 461, 1999, 2000]:
            self.check_single('x' * longest, 'x')
            self.check_single(('a' + 'x' * longest)[:2000], 'x')

    def test_all_runs_up_to_some_length(self):
        self.check_single('a'.join('x' * length for length in range(60)), 'x')

    def test_lists(self):
        found = {longest: SqueezedText.single(' ' * longest, ' ').replacements
                 for longest in [0, 1, 2, 3, 4, 5, 10, 11, 40, 41, 460]}
        self.assertEqual(found, {0: [], 1: [], 2: [2], 3: [2, 2], 4: [2, 2], 5: [3, 2, 2], 10: [3, 2, 2],
                                 11: [6, 3, 2, 2], 40: [6, 3, 2, 2], 41: [21, 6, 3, 2, 2], 460: [21, 6, 3, 2, 2]})

    def test_somewhat_beyond_the_bounds(self):
        self.check_single('x' * 60000 + 'a' + 'x' * 3, 'x')

    def test_off_an_object_and_by_name(self):
        live = SqueezedText('a   b', ' ')
        self.assertEqual(live.single('x    y', ' ').replacements, [2, 2])
        self.check(live, 'a   b', ' ', [])
        self.assertEqual(SqueezedText.single(character=' ', text='x    y').text, 'x y')

    def test_bad_characters(self):
        for character in BAD_CHARACTERS:
            for text in ['', 'a   b']:
                with self.subTest(character=character, text=text):
                    self.assert_raises_with(InvalidCharacter, character, lambda: SqueezedText.single(text, character))
                    self.assert_raises_with(InvalidCharacter, character,
                                            lambda: SqueezedText.single(text=text, character=character))


if __name__ == '__main__':
    unittest.main()
