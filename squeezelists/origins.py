"""Finds and counts the origins of a length: the lengths of runs that are squeezed to it."""

from squeezelists.checks import check_list, check_number


def greatest_origin(length, replacements):
    """Returns the greatest origin of a length."""
    check_number(length, 0)
    check_list(replacements)
    greatest = length
    for number in replacements:
        greatest = greatest * number
    return greatest


def origins(length, replacements):
    """Yields all origins of a length in ascending order."""
    check_number(length, 0)
    check_list(replacements)
    found = [length]
    for number in reversed(replacements):
        found = [origin for after in found for origin in origins_for_one(after, number)]
    yield from sorted(found)


def count_origins(length, replacements, last):
    """Returns the number of origins of a length that are at most `last`."""
    check_number(length, 0)
    check_list(replacements)
    check_number(last, 0)
    return count_up_to(last, length, replacements, 0, {})


def many_for_one(length, number):
    """Returns the number of origins of a length for one replacement."""
    # The characters left over are fewer than a group, and all of them are part of the length.
    return min(number, length + 1)


def origins_for_one(length, number):
    """Returns all origins of a length for one replacement."""
    return [(length - left) * number + left for left in range(many_for_one(length, number))]


def count_up_to(last, length, replacements, place, known):
    """Returns how many runs up to `last` the replacements from a place on squeeze to the length.

    `known` keeps the answers. There are few of them: the limits that one limit leads to lie close together.
    """
    if place == len(replacements):
        return 1 if last >= length else 0
    if (place, last) not in known:
        number = replacements[place]
        many = 0
        for left in range(number):
            # All runs with so many characters left over: their lengths afterwards are those from `left` on.
            longest = (last - left) // number + left
            many += count_up_to(longest, length, replacements, place + 1, known)
            many -= count_up_to(left - 1, length, replacements, place + 1, known)
        known[place, last] = many
    return known[place, last]
