"""Finds how far lists of replacements reach, and which lists reach furthest."""

from squeezelists.checks import check_list, check_number


def reach(replacements, most=1):
    """Returns the greatest N: all runs up to N have at most `most` characters afterwards."""
    check_list(replacements)
    check_number(most, 1)
    longest = most
    for number in reversed(replacements):
        longest = reach_with(number, longest)
    return longest


def best_reach(steps, most=1):
    """Returns the greatest reach of a list of so many replacements."""
    check_number(steps, 0)
    check_number(most, 1)
    longest = most
    for _ in range(steps):
        longest = greatest_reach_with_one(longest)
    return longest


def fewest_steps(length, most=1):
    """Returns the least number of replacements with which a list reaches the length."""
    check_number(length, 0)
    check_number(most, 1)
    steps = 0
    longest = most
    while longest < length:
        longest = greatest_reach_with_one(longest)
        steps += 1
    return steps


def best_lists(steps, most=1):
    """Yields all lists of so many replacements with the greatest reach, in ascending order."""
    check_number(steps, 0)
    check_number(most, 1)
    choices = best_choices(steps, most)
    many = 1
    for numbers in choices:
        many = many * len(numbers)
    # Each list is made when it is asked for: there may be too many to make them all first.
    for place in range(many):
        yield list_at(choices, place)


def reach_with(number, longest):
    """Returns the reach of a replacement that stands before a list with a given reach."""
    if number > longest + 1:
        return longest
    return (longest + 3 - number) * number - 2


def best_numbers(longest):
    """Returns, in ascending order, the replacements that make the greatest reach of a reach."""
    low = (longest + 3) // 2
    high = (longest + 4) // 2
    if low == high:
        return [low]
    return [low, high]


def greatest_reach_with_one(longest):
    """Returns the greatest reach that one more replacement makes of a reach."""
    return reach_with(best_numbers(longest)[0], longest)


def best_choices(steps, most):
    """Returns the best replacements for each place of a list, from its first to its last place."""
    choices = []
    longest = most
    for _ in range(steps):
        choices.append(best_numbers(longest))
        # Both best replacements make the same reach, so the places are free of each other.
        longest = greatest_reach_with_one(longest)
    choices.reverse()
    return choices


def list_at(choices, place):
    """Returns the list at a place, from 0 on, among all lists with one choice in each position."""
    found = []
    rest = place
    # The last position changes fastest in the order of Python's lists.
    for numbers in reversed(choices):
        found.append(numbers[rest % len(numbers)])
        rest = rest // len(numbers)
    found.reverse()
    return found
