"""Finds and counts the origins of a length: the lengths of runs that are squeezed to it."""

from squeezelists.checks import check_list, check_number


def greatest_origin(length, replacements):
    """Returns the greatest origin of a length."""
    check_number(length, 0)
    check_list(replacements)
    greatest = length
    for number in replacements:
        greatest = greatest * number
    return greatest


def origins(length, replacements):
    """Yields all origins of a length in ascending order."""
    check_number(length, 0)
    check_list(replacements)
    found = [length]
    for number in reversed(replacements):
        found = [origin for after in found for origin in origins_for_one(after, number)]
    yield from sorted(found)


def count_origins(length, replacements, last):
    """Returns the number of origins of a length that are at most `last`."""
    check_number(length, 0)
    check_list(replacements)
    check_number(last, 0)
    limits = {last: 1}
    for number in replacements:
        limits = limits_after(limits, number)
    return sum([many for limit, many in limits.items() if limit >= length])


def many_for_one(length, number):
    """Returns the number of origins of a length for one replacement."""
    # The characters left over are fewer than a group, and all of them are part of the length.
    return min(number, length + 1)


def origins_for_one(length, number):
    """Returns all origins of a length for one replacement."""
    return [(length - left) * number + left for left in range(many_for_one(length, number))]


def limits_after(limits, number):
    """Returns the limits of the runs after a replacement for those before it.

    A limit stands for all runs up to it, one of each length, and is kept with how often they are counted;
    below 0, they are taken away so often. There are few limits: those that come from one lie close together.
    """
    found = {}
    for limit, many in limits.items():
        for left in range(min(number, limit + 1)):
            # All runs with so many characters left over: their lengths afterwards are those from `left` on.
            longest = (limit - left) // number + left
            found[longest] = found.get(longest, 0) + many
            found[left - 1] = found.get(left - 1, 0) - many
    return {limit: many for limit, many in found.items() if many != 0}
