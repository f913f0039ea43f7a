"""Checks of arguments that several files need."""

from squeezelists.errors import InvalidCharacter, InvalidList, InvalidNumber


def check_list(replacements):
    """Raises an error for the first number that is no replacement."""
    for index, number in enumerate(replacements):
        if number < 2:
            raise InvalidList(index)


def check_number(number, least):
    """Raises an error for a number that is less than the least one allowed."""
    if number < least:
        raise InvalidNumber(number)


def check_character(character):
    """Raises an error for anything but a string of one character."""
    if not isinstance(character, str) or len(character) != 1:
        raise InvalidCharacter(character)
