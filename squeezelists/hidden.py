"""Hides a list of replacements, and finds a hidden list by questions."""

from squeezelists.checks import check_list
from squeezelists.origins import greatest_origin
from squeezelists.squeezing import squeezed


class HiddenList:
    """A list of replacements that only tells what it does to runs."""

    def __init__(self, replacements):
        check_list(replacements)
        self._replacements = list(replacements)
        self._questions = 0

    @property
    def questions(self):
        """How many questions have been answered."""
        return self._questions

    def ask(self, length):
        """Returns the length of a run after the hidden list."""
        answer = squeezed(length, self._replacements)
        self._questions += 1
        return answer


def find(hidden, steps, greatest):
    """Returns the list that is hidden: at most so many replacements, each at most the greatest one."""
    found = []
    before = 1
    rest = ask_for_product(hidden, steps, greatest)
    while rest > 1:
        number = ask_for_number(hidden, before, rest)
        found.append(number)
        before = before * number
        rest = rest // number
    return found


def ask_for_product(hidden, steps, greatest):
    """Returns the product of the hidden list, by one question."""
    most = max(greatest, 2)
    # What is left over makes a run less than 2 * most longer than the run divided by the product. This run
    # is so long that, divided by its length afterwards, it is less than 1 below the product.
    length = 2 * greatest_origin(most, [most] * (2 * steps))
    answer = hidden.ask(length)
    return (length + answer - 1) // answer


def ask_for_number(hidden, before, rest):
    """Returns the replacement that stands next to those with the product `before`.

    The product of this one and those behind it is `rest`.
    """
    number = 2
    # Those before make rest - number + 1 characters of the run that is asked for. The others make one
    # character of `rest`, and next of the run that is shorter by the replacement less one.
    while rest % number > 0 or hidden.ask(before * (rest - number + 1)) > 1:
        number += 1
    return number
