"""Reads lists of replacements from their texts."""

from squeezelists.errors import Unreadable

MOST_DIGITS = 200


def read_list(text):
    """Returns the list of replacements that has this text."""
    if text == "none":
        return []
    found = []
    for part in text.split(", "):
        digits, mark, many = part.partition("^")
        if not is_number(digits) or (mark and not is_number(many)):
            raise Unreadable(text)
        number = int(digits)
        # Equal neighbours are written once.
        if found and found[-1] == number:
            raise Unreadable(text)
        found.extend([number] * (int(many) if mark else 1))
    return found


def is_number(digits):
    """Tells whether these are the digits of a replacement, or of how many times one is written at once.

    Both are at least 2.
    """
    if not digits.isascii() or not digits.isdigit() or len(digits) > MOST_DIGITS:
        return False
    return digits[0] != "0" and digits != "1"
