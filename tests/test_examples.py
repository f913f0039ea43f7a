"""The examples of the document and those of README.md, as they stand there."""

import doctest
import re
import unittest
from pathlib import Path

from squeezelists.errors import SqueezeError

# The examples of DOC.md, copied letter by letter.
SQUEEZING = """
>>> from squeezelists.squeezing import squeeze_text, squeezed, stages
>>> [squeezed(20, [6, 3, 2]), list(stages(11, [6, 3, 2])), squeeze_text('a    b   c', ' ', [3, 2])]
[2, [11, 6, 2, 1], 'a b c']
"""
REACHES = """
>>> from squeezelists.reaches import best_lists, best_reach, fewest_steps, reach
>>> [reach([21, 6, 3, 3, 2]), reach([6, 3, 2], 2), best_reach(6), fewest_steps(100), list(best_lists(3))]
[460, 40, 53590, 5, [[3, 2, 2], [3, 3, 2], [4, 2, 2], [4, 3, 2]]]
"""
CHOICES = """
>>> from squeezelists.choices import count_lists, nth_list
>>> [count_lists(2, 4, 4), nth_list(2, 4, 4, 1), count_lists(0, 5, 1), count_lists(3, 60, 11)]
[2, [3, 2], 1, 0]
"""
ORIGINS = """
>>> from squeezelists.origins import count_origins, greatest_origin, origins
>>> [greatest_origin(1, [3, 2]), list(origins(1, [3, 2])), list(origins(2, [2])), count_origins(1, [3, 2], 4)]
[6, [1, 2, 3, 4, 6], [3, 4], 4]
"""
PARTING = """
>>> from squeezelists.parting import commute, list_of, parting_run
>>> from squeezelists.squeezing import squeezed
>>> run = parting_run([2, 3], [3, 2])
>>> [squeezed(run, [2, 3]) == squeezed(run, [3, 2]), commute([2, 3], [2, 3, 2, 3]), list_of([1, 2, 3, 4, 6]), list_of([1, 2, 5])]
[False, True, [3, 2], None]
"""
HIDDEN = """
>>> from squeezelists.hidden import HiddenList, find
>>> find(HiddenList([21, 6, 3, 3, 2]), 6, 40)
[21, 6, 3, 3, 2]
"""
LIVE = """
>>> from squeezelists.live import SqueezedText
>>> live = SqueezedText('a     b', ' ')
>>> live.squeeze(3, 2)
>>> live.undo()
>>> single = SqueezedText.single('x    y', ' ')
>>> [live.text, live.replacements, live.longest, list(live.runs()), single.replacements, single.text]
['a   b', [3], 3, [3], [2, 2], 'x y']
"""
TEXTS = """
>>> from squeezelists.texts import show_list
>>> show_list([21, 3, 3, 2])
'21, 3^2, 2'
"""
READINGS = """
>>> from squeezelists.readings import read_list
>>> read_list('3, 3')
raises Unreadable('3, 3')
"""
README = Path(__file__).resolve().parent.parent / 'README.md'


class Raised:
    """Shows an error as the document does."""

    def __init__(self, error):
        self.error = error

    def __repr__(self):
        return f'raises {type(self.error).__name__}({self.error.value!r})'


def raised(call):
    try:
        return call()
    except SqueezeError as error:
        return Raised(error)


def run_examples(text):
    """Runs the examples of a text; returns how many there are and what was wrong with them."""
    told = []
    # The document's own way to show an error.
    text = re.sub('^>>> (.*)\nraises (.*)$', r'>>> raised(lambda: \1)\nraises \2', text, flags=re.MULTILINE)
    # The marks that end a block of code are no part of what an example shows.
    text = text.replace('```', '')
    test = doctest.DocTestParser().get_doctest(text, {'raised': raised}, 'examples', None, None)
    results = doctest.DocTestRunner().run(test, out=told.append)
    return results.attempted, ''.join(told)


class ExamplesTest(unittest.TestCase):

    def check(self, text, least):
        many, told = run_examples(text)
        self.assertEqual(told, '')
        self.assertGreaterEqual(many, least)

    def test_squeezing(self):
        self.check(SQUEEZING, 2)

    def test_reaches(self):
        self.check(REACHES, 2)

    def test_choices(self):
        self.check(CHOICES, 2)

    def test_origins(self):
        self.check(ORIGINS, 2)

    def test_parting(self):
        self.check(PARTING, 4)

    def test_hidden(self):
        self.check(HIDDEN, 2)

    def test_live(self):
        self.check(LIVE, 6)

    def test_texts(self):
        self.check(TEXTS, 2)

    def test_readings(self):
        self.check(READINGS, 2)
        many, told = run_examples(READINGS.replace("raises Unreadable('3, 3')", "raises Unreadable('3')"))
        self.assertIn("raises Unreadable('3, 3')", told)

    def test_first_words_of_the_document(self):
        self.check("""
>>> from squeezelists.squeezing import squeezed
>>> max(squeezed(length, [21, 6, 3, 3, 2]) for length in range(461))
1
>>> squeezed(461, [21, 6, 3, 3, 2])
2
""", 3)

    def test_readme(self):
        self.check(README.read_text(encoding='utf-8'), 3)


if __name__ == '__main__':
    unittest.main()
