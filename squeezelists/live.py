"""Keeps a text in which runs of a character are squeezed step by step."""

from squeezelists.checks import check_character, check_list
from squeezelists.errors import NothingToUndo
from squeezelists.reaches import best_lists, fewest_steps
from squeezelists.squeezing import lengths_between, squeeze_text


class SqueezedText:
    """A text in which runs of a character are squeezed, and what has been done to it."""

    def __init__(self, text, character):
        check_character(character)
        self._character = character
        self._replacements = []
        # The text at the start, and the text after each replacement.
        self._texts = [text]

    def __eq__(self, other):
        if not isinstance(other, SqueezedText):
            return False
        return (self._texts[0] == other._texts[0] and self._character == other._character
                and self._replacements == other._replacements)

    @classmethod
    def single(cls, text, character):
        """Returns an object whose runs the first of the best lists has made single."""
        made = cls(text, character)
        steps = fewest_steps(made.longest)
        lists = list(best_lists(steps))
        first = lists[0]
        made.squeeze(*first)
        return made

    @property
    def text(self):
        """The present text."""
        return self._texts[-1]

    @property
    def replacements(self):
        """The list of the replacements so far."""
        return list(self._replacements)

    @property
    def longest(self):
        """The length of the longest run of the character in the present text."""
        return max(lengths_between(self.text, self._character))

    def squeeze(self, *replacements):
        """Applies replacements from left to right."""
        check_list(replacements)
        longest = self.longest
        for number in replacements:
            after = self.text
            # Most replacements of a long list find no run that is long enough.
            if number <= longest:
                after = squeeze_text(after, self._character, [number])
                longest = max(lengths_between(after, self._character))
            self._replacements.append(number)
            self._texts.append(after)

    def undo(self):
        """Takes back the last replacement."""
        if not self._replacements:
            raise NothingToUndo(0)
        self._replacements.pop()
        self._texts.pop()

    def runs(self):
        """Yields the lengths of the runs of the character in the present text, from left to right."""
        for length in lengths_between(self.text, self._character):
            if length > 0:
                yield length
