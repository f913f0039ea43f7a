"""The examples of the document and those of README.md, as they stand there."""

import doctest
import unittest
from pathlib import Path

# The examples of DOC.md for the files that are there, copied letter by letter.
SQUEEZING = """
>>> from squeezelists.squeezing import squeeze_text, squeezed, stages
>>> [squeezed(20, [6, 3, 2]), list(stages(11, [6, 3, 2])), squeeze_text('a    b   c', ' ', [3, 2])]
[2, [11, 6, 2, 1], 'a b c']
"""
REACHES = """
>>> from squeezelists.reaches import best_lists, best_reach, fewest_steps, reach
>>> [reach([21, 6, 3, 3, 2]), reach([6, 3, 2], 2), best_reach(6), fewest_steps(100), list(best_lists(3))]
[460, 40, 53590, 5, [[3, 2, 2], [3, 3, 2], [4, 2, 2], [4, 3, 2]]]
"""
README = Path(__file__).resolve().parent.parent / 'README.md'


def run_examples(text):
    """Runs the examples of a text; returns how many there are and what was wrong with them."""
    told = []
    # The marks that end a block of code are no part of what an example shows.
    text = text.replace('```', '')
    test = doctest.DocTestParser().get_doctest(text, {}, 'examples', None, None)
    results = doctest.DocTestRunner().run(test, out=told.append)
    return results.attempted, ''.join(told)


class ExamplesTest(unittest.TestCase):

    def check(self, text, least):
        many, told = run_examples(text)
        self.assertEqual(told, '')
        self.assertGreaterEqual(many, least)

    def test_squeezing(self):
        self.check(SQUEEZING, 2)

    def test_reaches(self):
        self.check(REACHES, 2)

    def test_first_words_of_the_document(self):
        self.check("""
>>> from squeezelists.squeezing import squeezed
>>> max(squeezed(length, [21, 6, 3, 3, 2]) for length in range(461))
1
>>> squeezed(461, [21, 6, 3, 3, 2])
2
""", 3)

    def test_readme(self):
        self.check(README.read_text(encoding='utf-8'), 3)


if __name__ == '__main__':
    unittest.main()
