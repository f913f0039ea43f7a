"""Applies lists of replacements to lengths of runs and to texts."""

from squeezelists.checks import check_character, check_list, check_number


def squeezed(length, replacements):
    """Returns the length of a run after all replacements."""
    check_number(length, 0)
    check_list(replacements)
    return length_after(length, replacements)


def squeeze_text(text, character, replacements):
    """Returns the text in which all runs of the character are squeezed."""
    check_character(character)
    check_list(replacements)
    lengths = lengths_between(text, character)
    # Runs of the same length are squeezed once: there may be many of them, and the list may be long.
    after = {length: length_after(length, replacements) for length in sorted(set(lengths))}
    others = list(text.replace(character, "")) + [""]
    return "".join([character * after[length] + other for length, other in zip(lengths, others)])


def stages(length, replacements):
    """Yields the length of a run, and its length after each replacement."""
    check_number(length, 0)
    check_list(replacements)
    yield length
    present = length
    for number in replacements:
        present = length_after_one(present, number)
        yield present


def length_after(length, replacements):
    """Returns what `squeezed` returns, for arguments that are checked already."""
    present = length
    for number in replacements:
        present = length_after_one(present, number)
    return present


def length_after_one(length, number):
    """Returns the length of a run after one replacement."""
    groups, left = divmod(length, number)
    return groups + left


def lengths_between(text, character):
    """Returns how often the character stands before each other one, and at the end of the text."""
    lengths = []
    run = 0
    for sign in text:
        if sign == character:
            run += 1
        else:
            lengths.append(run)
            run = 0
    lengths.append(run)
    return lengths
