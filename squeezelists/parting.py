"""Decides whether two lists do the same, and reads a list back from what it does."""

from squeezelists.checks import check_list
from squeezelists.origins import greatest_origin, many_for_one
from squeezelists.squeezing import length_after_one


def parting_run(first, second):
    """Returns the length of a run that the lists squeeze to different lengths, or None."""
    check_list(first)
    check_list(second)
    longest = greatest_origin(1, first)
    rival = greatest_origin(1, second)
    if longest != rival:
        # No list makes a run single that is longer than its own greatest origin of 1.
        return max(longest, rival)
    before = 1
    for number, other in zip(first, second):
        if number != other:
            # For what follows the equal beginnings, the two greatest origins of 1 lie its first number
            # less one apart: only the list with the lesser number makes this run single.
            return longest - before * (min(number, other) - 1)
        before = before * number
    return None


def commute(first, second):
    """Tells whether the lists, one after the other, do the same in both orders."""
    check_list(first)
    check_list(second)
    # Two different lists never do the same.
    return first + second == second + first


def list_of(singles):
    """Returns the list for which the lengths are exactly the origins of 1, or None."""
    found = []
    present = sorted(singles)
    while len(present) > 1:
        # The two greatest origins of 1 lie the first replacement less one apart.
        number = present[-1] - present[-2] + 1
        after = sorted({length_after_one(length, number) for length in present})
        # The lengths must be all origins of those after the replacement, not only some of them.
        if sum([many_for_one(length, number) for length in after]) != len(present):
            return None
        found.append(number)
        present = after
    return found if present == [1] else None
