"""Slow and plain ways to find what the program finds, for the tests to compare with."""

import re
from itertools import count, groupby, product


def replaced_sign_by_sign(text, character, number):
    """Goes through a text from left to right and replaces each `number` characters by one."""
    done = ''
    waiting = 0
    for sign in text:
        if sign != character:
            done += character * waiting + sign
            waiting = 0
        elif waiting == number - 1:
            done += character
            waiting = 0
        else:
            waiting += 1
    return done + character * waiting


def text_sign_by_sign(text, character, replacements):
    """Applies a list of replacements to a text, one replacement after the other."""
    for number in replacements:
        text = replaced_sign_by_sign(text, character, number)
    return text


def length_sign_by_sign(length, replacements):
    """Applies a list of replacements to a run that is written out."""
    return len(text_sign_by_sign('x' * length, 'x', replacements))


def length_by_taking_away(length, replacements):
    """Takes groups away from a run, the greatest heaps of groups first: for lengths of any size."""
    for number in replacements:
        heaps = [(number, 1)]
        while heaps[-1][0] * 2 <= length:
            heaps.append((heaps[-1][0] * 2, heaps[-1][1] * 2))
        put_in = 0
        for signs, groups in reversed(heaps):
            if signs <= length:
                length -= signs
                put_in += groups
        length += put_in
    return length


def reach_by_trying(replacements, most):
    """Tries all runs, until the first one that has too many characters afterwards."""
    for length in count(1):
        if length_by_groups(length, replacements) > most:
            return length - 1


def length_by_groups(length, replacements):
    """As length_sign_by_sign, fast enough to try many lists."""
    for number in replacements:
        put_in, left = divmod(length, number)
        length = put_in + left
    return length


def all_lists(steps, greatest):
    """Returns all lists of so many replacements of at most `greatest`, in ascending order."""
    return [list(numbers) for numbers in product(range(2, greatest + 1), repeat=steps)]


def makes_single(numbers, length):
    """Tries all runs up to a length, one by one."""
    return all(length_by_groups(run, numbers) == 1 for run in range(1, length + 1))


def origins_by_trying(length, numbers, last=None):
    """Tries all runs up to the last one, or up to the greatest one that can become so short."""
    if last is None:
        last = max(length, 1)
        for number in numbers:
            last *= number
    return [run for run in range(last + 1) if length_by_groups(run, numbers) == length]


def lists_with_product_up_to(bound):
    """Returns all lists whose numbers have a product of at most `bound`, the empty one too."""
    found = [[]]
    for first in range(2, bound + 1):
        found.extend([first] + rest for rest in lists_with_product_up_to(bound // first))
    return found


def runs_sign_by_sign(text, character):
    """Returns the lengths of the runs of a character, from left to right."""
    return [len(list(run)) for sign, run in groupby(text) if sign == character]


def shown(numbers):
    """Returns the text of a list of replacements."""
    parts = []
    for number, run in groupby(numbers):
        many = len(list(run))
        parts.append(str(number) if many == 1 else f'{number}^{many}')
    return ', '.join(parts) or 'none'


NUMBER = '([2-9]|[1-9][0-9]{1,199})'
PART = NUMBER + '(\\^' + NUMBER + ')?'


def read_by_pattern(text):
    """Returns the list of replacements with a text, or None if there is none."""
    if text == 'none':
        return []
    if not re.fullmatch(f'{PART}(, {PART})*', text):
        return None
    parts = [part.split('^') for part in text.split(', ')]
    if any(part[0] == after[0] for part, after in zip(parts, parts[1:])):
        return None
    return [int(part[0]) for part in parts for _ in range(int(part[1]) if part[1:] else 1)]
