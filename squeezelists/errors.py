"""The errors of the program. Each one but SqueezeError stores what is wrong in `value`."""

# The messages do not show `value`: Python refuses to write very great integers as text.


class SqueezeError(ValueError):
    """What all errors of the program have in common."""


class InvalidList(SqueezeError):
    """A list has a number less than 2; `value` is the index of the first one."""

    def __init__(self, value):
        super().__init__("a number in the list of replacements is less than 2")
        self.value = value


class InvalidNumber(SqueezeError):
    """A number, `value`, is less than it may be, or nothing has it."""

    def __init__(self, value):
        super().__init__("a number is out of its bounds")
        self.value = value


class InvalidCharacter(SqueezeError):
    """A character, `value`, is not a string of one character."""

    def __init__(self, value):
        super().__init__("the character is not a string of one character")
        self.value = value


class NothingToUndo(SqueezeError):
    """There is no replacement that could be taken back."""

    def __init__(self, value):
        super().__init__("there is no replacement to take back")
        self.value = value


class Unreadable(SqueezeError):
    """No list of replacements has the text `value`."""

    def __init__(self, value):
        super().__init__("no list of replacements has this text")
        self.value = value
