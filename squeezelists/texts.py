"""Writes lists of replacements as texts."""

PIECE_DIGITS = 64
PIECE = 10 ** 64


def show_list(replacements):
    """Returns the text of a list of replacements."""
    if not replacements:
        return "none"
    return ", ".join([show_part(number, many) for number, many in equal_neighbours(replacements)])


def equal_neighbours(replacements):
    """Returns each number of the list once for all its equal neighbours, with how many they are."""
    found = []
    for number in replacements:
        if found and found[-1][0] == number:
            found[-1][1] += 1
        else:
            found.append([number, 1])
    return found


def show_part(number, many):
    """Returns the text of a number that stands so many times in a row."""
    if many == 1:
        return digits_of(number)
    return f"{digits_of(number)}^{many}"


def digits_of(number):
    """Returns the digits of a number."""
    # Python refuses to write very great integers as text: they are written piece by piece.
    pieces = []
    rest = number
    while rest >= PIECE:
        rest, low = divmod(rest, PIECE)
        pieces.append(str(low).zfill(PIECE_DIGITS))
    pieces.append(str(rest))
    pieces.reverse()
    return "".join(pieces)
