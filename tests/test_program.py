"""Points 1 to 7 over the whole program: what belongs to no single file."""

import copy
import unittest

from error_checks import ErrorChecks
from oracles import length_by_groups, runs_sign_by_sign
from squeezelists.choices import count_lists, nth_list
from squeezelists.errors import (
    InvalidCharacter,
    InvalidList,
    InvalidNumber,
    NothingToUndo,
    SqueezeError,
    Unreadable,
)
from squeezelists.hidden import HiddenList, find
from squeezelists.live import SqueezedText
from squeezelists.origins import count_origins, greatest_origin, origins
from squeezelists.parting import commute, list_of, parting_run
from squeezelists.reaches import best_lists, best_reach, fewest_steps, reach
from squeezelists.readings import read_list
from squeezelists.squeezing import squeeze_text, squeezed, stages
from squeezelists.texts import show_list

WITH_VALUE = [InvalidList, InvalidNumber, InvalidCharacter, NothingToUndo, Unreadable]

# Texts of lists of up to 40000 replacements.
LONG_TEXTS = [
    '2^100', ', '.join(['2^100', '3^100'] * 200), ', '.join(['30^100', '29^100'] * 40), ', '.join(['3', '2'] * 600),
    ', '.join([f'{10 ** 199 + 1}^100', f'{10 ** 199}^100'] * 4),
]


def text_after(text, character, numbers):
    """Squeezes the runs of a text one by one."""
    after = {run: length_by_groups(run, numbers) for run in set(runs_sign_by_sign(text, character))}
    done, run = '', 0
    for sign in text + '\n':
        if sign == character:
            run += 1
        else:
            done += character * after.get(run, 0) + sign
            run = 0
    return done[:-1]


class LongListsTest(unittest.TestCase, ErrorChecks):

    @classmethod
    def setUpClass(cls):
        cls.lists = [read_list(text) for text in LONG_TEXTS]

    def test_lengths(self):
        for numbers in self.lists:
            for length in [0, 1, 2, 1999, 10 ** 30 - 1]:
                expected = length_by_groups(length, numbers)
                self.assertEqual(squeezed(length, numbers), expected)
                hidden = HiddenList(numbers)
                self.assertEqual([hidden.ask(length), hidden.questions], [expected, 1])
                found = list(stages(length, numbers))
                self.assertEqual(len(found), len(numbers) + 1)
                self.assertEqual([found[0], found[50], found[-1]],
                                 [length, length_by_groups(length, numbers[:50]), expected])

    def test_texts(self):
        for numbers in self.lists:
            for text in ['', 'a' * 2000, ' ' * 2000, ' a' * 1000, 'a'.join(' ' * many for many in range(60))]:
                expected = text_after(text, ' ', numbers)
                self.assertEqual(squeeze_text(text, ' ', numbers), expected)
                live = SqueezedText(text, ' ')
                live.squeeze(*numbers)
                self.assertEqual([live.text, live.replacements], [expected, numbers])
                for _ in range(95):
                    live.undo()
                self.assertEqual(live.replacements, numbers[:-95])
                self.assertEqual(live.text, text_after(text, ' ', numbers[:-95]))

    def test_reaches(self):
        self.assertEqual(reach(self.lists[0]), 2 ** 100)
        for numbers in self.lists:
            for most in [1, 2, 10 ** 30 - 1]:
                longest = reach(numbers, most)
                self.assertLessEqual(squeezed(longest, numbers), most)
                self.assertGreater(squeezed(longest + 1, numbers), most)

    def test_parting(self):
        for numbers in self.lists:
            for other in [numbers[:-1], [5, numbers[0]] + numbers[2:], [numbers[-1]] + numbers[:-1] + [7]]:
                run = parting_run(numbers, other)
                self.assertNotEqual(squeezed(run, numbers), squeezed(run, other))
            self.assertIsNone(parting_run(numbers, list(numbers)))
            self.assertIs(commute(numbers, numbers + numbers), True)
            self.assertIs(commute(numbers, [5] + numbers), False)

    def test_origins(self):
        for numbers in self.lists:
            run = greatest_origin(1, numbers)
            self.assertEqual(squeezed(run, numbers), 1)
            self.assertGreater(squeezed(run + 1, numbers), 1)
            self.assertEqual(list(origins(0, numbers)), [0])
        for numbers in self.lists[:4]:
            for last in [0, 1, 40]:
                singles = [length_by_groups(run, numbers) for run in range(last + 1)].count(1)
                self.assertEqual(count_origins(1, numbers, last), singles)

    def test_shown_again(self):
        for text, numbers in zip(LONG_TEXTS, self.lists):
            self.assertEqual(show_list(numbers), text)
            twice = show_list(numbers + numbers)
            self.assertEqual(read_list(twice), numbers + numbers)

    def test_bad_numbers_at_the_end(self):
        for numbers in self.lists:
            bad = numbers + [1]
            for call in [lambda: squeezed(5, bad), lambda: list(stages(5, bad)), lambda: squeeze_text('a', 'a', bad),
                         lambda: reach(bad), lambda: greatest_origin(1, bad), lambda: parting_run(numbers, bad),
                         lambda: commute(bad, numbers), lambda: HiddenList(bad),
                         lambda: SqueezedText('a', 'a').squeeze(*bad)]:
                self.assert_raises_with(InvalidList, len(numbers), call)


class PassedOnTest(unittest.TestCase):

    def test_best_lists(self):
        for numbers in best_lists(4):
            self.assertEqual(read_list(show_list(numbers)), numbers)
            self.assertEqual(find(HiddenList(numbers), 6, 40), numbers)
            self.assertEqual(list_of(list(origins(1, numbers))), numbers)
            live = SqueezedText('a' + ' ' * reach(numbers) + 'b', ' ')
            live.squeeze(*numbers)
            self.assertEqual(live.text, 'a b')

    def test_great_reaches(self):
        great = best_reach(12)
        numbers = list(best_lists(8, great))[-1]
        self.assertEqual(reach(numbers, great), best_reach(8, great))
        self.assertEqual(HiddenList(numbers).ask(reach(numbers, great)), squeezed(reach(numbers, great), numbers))
        self.assertEqual(fewest_steps(best_reach(8, great), great), 8)
        self.assertEqual(len(show_list(numbers).split(', ')), 8)
        live = SqueezedText(' ' * 2000, ' ')
        live.squeeze(*numbers)
        self.assertEqual([live.longest, live.replacements], [2000, numbers])

    def test_a_text_squeezed_by_a_list_that_was_found(self):
        single = SqueezedText.single('a' + ' ' * 460, ' ')
        numbers = find(HiddenList(single.replacements), 6, 40)
        self.assertEqual(squeeze_text('a' + ' ' * 460, ' ', numbers), single.text)
        self.assertEqual(show_list(numbers), '21, 6, 3, 2^2')


class ErrorsTest(unittest.TestCase, ErrorChecks):

    # What is called, the error's class and its value: the first error that the document lists comes first.
    CALLS = [
        (lambda: squeezed(-1, [1]), InvalidNumber, -1),
        (lambda: squeezed(1, [2, 1]), InvalidList, 1),
        (lambda: squeeze_text('a', 'ab', [1]), InvalidCharacter, 'ab'),
        (lambda: squeeze_text('a', 'a', [1]), InvalidList, 0),
        (lambda: list(stages(-1, [1])), InvalidNumber, -1),
        (lambda: list(stages(0, [1])), InvalidList, 0),
        (lambda: reach([3, 1], 0), InvalidList, 1),
        (lambda: reach([3], 0), InvalidNumber, 0),
        (lambda: best_reach(-1, 0), InvalidNumber, -1),
        (lambda: best_reach(1, 0), InvalidNumber, 0),
        (lambda: fewest_steps(-1, 0), InvalidNumber, -1),
        (lambda: fewest_steps(1, -2), InvalidNumber, -2),
        (lambda: list(best_lists(-1, 0)), InvalidNumber, -1),
        (lambda: list(best_lists(0, 0)), InvalidNumber, 0),
        (lambda: count_lists(-1, 1, -2), InvalidNumber, -1),
        (lambda: count_lists(1, 1, -2), InvalidNumber, 1),
        (lambda: count_lists(1, 2, -2), InvalidNumber, -2),
        (lambda: nth_list(-1, 1, -2, -3), InvalidNumber, -1),
        (lambda: nth_list(1, 1, -2, -3), InvalidNumber, 1),
        (lambda: nth_list(1, 2, -2, -3), InvalidNumber, -2),
        (lambda: nth_list(1, 2, 2, -3), InvalidNumber, -3),
        (lambda: nth_list(1, 2, 2, 1), InvalidNumber, 1),
        (lambda: greatest_origin(-1, [1]), InvalidNumber, -1),
        (lambda: greatest_origin(1, [1]), InvalidList, 0),
        (lambda: list(origins(-1, [1])), InvalidNumber, -1),
        (lambda: list(origins(1, [1])), InvalidList, 0),
        (lambda: count_origins(-1, [1], -2), InvalidNumber, -1),
        (lambda: count_origins(1, [1], -2), InvalidList, 0),
        (lambda: count_origins(1, [2], -2), InvalidNumber, -2),
        (lambda: parting_run([2, 1], [1]), InvalidList, 1),
        (lambda: parting_run([2, 2], [1]), InvalidList, 0),
        (lambda: commute([2, 1], [1]), InvalidList, 1),
        (lambda: commute([2, 2], [1]), InvalidList, 0),
        (lambda: HiddenList([2, 2, 1]), InvalidList, 2),
        (lambda: HiddenList([2]).ask(-1), InvalidNumber, -1),
        (lambda: SqueezedText('a', ''), InvalidCharacter, ''),
        (lambda: SqueezedText.single('a', 'ab'), InvalidCharacter, 'ab'),
        (lambda: SqueezedText('a', 'a').squeeze(2, 0, 1), InvalidList, 1),
        (lambda: SqueezedText('a', 'a').undo(), NothingToUndo, 0),
        (lambda: read_list('3, 3'), Unreadable, '3, 3'),
    ]

    def test_each_error(self):
        for number, (call, kind, value) in enumerate(self.CALLS):
            with self.subTest(number=number):
                self.assert_raises_with(kind, value, call)
                with self.assertRaises(SqueezeError) as held:
                    call()
                self.assertIsInstance(held.exception, ValueError)
                others = [other for other in WITH_VALUE if isinstance(held.exception, other)]
                self.assertEqual(others, [kind])

    def test_each_class_is_raised(self):
        self.assertEqual({kind for _, kind, _ in self.CALLS}, set(WITH_VALUE))


class ArgumentsTest(unittest.TestCase):

    # Functions, and arguments with lists among them: some are right, others raise errors.
    CALLS = [
        (squeezed, (20, [6, 3, 2])), (squeezed, (20, [6, 1])), (squeeze_text, ('a    b', ' ', [3, 2])),
        (squeeze_text, ('a    b', ' ', [0, 2])), (stages, (11, [6, 3, 2])), (stages, (11, [6, 3, 1])),
        (reach, ([21, 6, 3, 3, 2],)), (reach, ([21, 6], 0)), (greatest_origin, (3, [3, 2])),
        (greatest_origin, (3, [3, -2])), (origins, (3, [3, 2])), (origins, (3, [1])), (count_origins, (1, [3, 2], 4)),
        (count_origins, (1, [3, 2], -4)), (parting_run, ([2, 3], [3, 2])), (parting_run, ([2, 3], [2, 3])),
        (parting_run, ([2, 3], [1])), (commute, ([2, 3], [2, 3, 2, 3])), (commute, ([1], [2])),
        (list_of, ([6, 1, 4, 2, 3],)), (list_of, ([5, 2, 1],)), (show_list, ([21, 3, 3, 2],)), (show_list, ([],)),
        (HiddenList, ([3, 2],)), (HiddenList, ([3, 1],)),
    ]

    def test_arguments_are_unchanged(self):
        for function, arguments in self.CALLS:
            with self.subTest(function=function.__name__, arguments=arguments):
                kept = copy.deepcopy(arguments)
                try:
                    found = function(*arguments)
                    if function in [stages, origins]:
                        list(found)
                except SqueezeError:
                    pass
                self.assertEqual(arguments, kept)

    def test_returned_lists_are_new(self):
        hidden = HiddenList([3, 2])
        live = SqueezedText('a    b', ' ')
        live.squeeze(3, 2)
        for call in [lambda: nth_list(2, 4, 4, 1), lambda: list_of([1, 2, 3, 4, 6]), lambda: find(hidden, 6, 40),
                     lambda: read_list('3, 2'), lambda: live.replacements]:
            first = call()
            self.assertEqual(first, [3, 2])
            first.append(7)
            self.assertEqual(call(), [3, 2])
        for numbers in best_lists(3):
            numbers.append(7)
        self.assertEqual(list(best_lists(3)), [[3, 2, 2], [3, 3, 2], [4, 2, 2], [4, 3, 2]])


if __name__ == '__main__':
    unittest.main()
