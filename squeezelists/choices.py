"""Counts the lists that make all runs up to a length single, and finds them by their numbers."""

from squeezelists.checks import check_number
from squeezelists.errors import InvalidNumber
from squeezelists.reaches import fewest_steps


def count_lists(steps, greatest, length):
    """Returns how many lists of so many replacements make all runs up to the length single."""
    check_choice(steps, greatest, length)
    return counts_by_place(steps, greatest, length)[0][length]


def nth_list(steps, greatest, length, number):
    """Returns the list with a number, from 0 on, of these lists in ascending order."""
    check_choice(steps, greatest, length)
    counts = counts_by_place(steps, greatest, length)
    if number < 0 or number >= counts[0][length]:
        raise InvalidNumber(number)
    found = []
    longest = length
    index = number
    for place in range(steps):
        chosen, index = choose(longest, counts[place + 1], index)
        found.append(chosen)
        longest = longest_after(longest, chosen)
    return found


def check_choice(steps, greatest, length):
    """Raises an error for the first number that is less than it may be."""
    check_number(steps, 0)
    check_number(greatest, 2)
    check_number(length, 0)


def longest_after(longest, number):
    """Returns the greatest length that the runs up to the longest one have after a replacement."""
    if number > longest:
        return longest
    # This run has as many characters left over as can be, and before them as many groups as fit.
    return (longest + 1) // number + number - 2


def counts_by_place(steps, greatest, length):
    """Returns for each place how many choices of the replacements from there on are good.

    The counts of a place are kept by the greatest length that a run may still have there. Where a length
    is missing, no choice is good.
    """
    lengths = lengths_by_place(steps, greatest, length)
    counts = [{longest: 1 if longest <= 1 else 0 for longest in lengths[steps]}]
    for place in reversed(range(steps)):
        counts.append(counts_before(lengths[place], greatest, counts[-1]))
    counts.reverse()
    return counts


def lengths_by_place(steps, greatest, length):
    """Returns for each place the greatest lengths that runs up to the length may still have there."""
    lengths = [[length]]
    for place in range(1, steps + 1):
        after = sorted({longest_after(longest, number)
                        for longest in lengths[-1] for number in range(2, greatest + 1)})
        # Most lengths are too great for the replacements to come and are left out.
        lengths.append([longest for longest in after if fewest_steps(longest) <= steps - place])
    return lengths


def counts_before(lengths, greatest, counts):
    """Returns the counts of a place for these lengths; `counts` are those of the next place."""
    found = {}
    for longest in lengths:
        many = 0
        for number in range(2, greatest + 1):
            many += counts.get(longest_after(longest, number), 0)
        found[longest] = many
    return found


def choose(longest, counts, index):
    """Returns the replacement of the choice with a number, and its number among those that begin so."""
    number = 2
    rest = index
    many = counts.get(longest_after(longest, number), 0)
    while rest >= many:
        rest = rest - many
        number += 1
        many = counts.get(longest_after(longest, number), 0)
    return number, rest
