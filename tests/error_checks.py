"""What several test files ask of errors."""

# What each bad list is told by: the index of the first number less than 2.
BAD_LISTS = [
    ([1], 0), ([0], 0), ([-1], 0), ([-5, 1], 0), ([2, 1], 1), ([2, 3, 0, 2], 2), ([2, 1, 3, 0], 1),
    ([3, 3, 3, -2, -3], 3), ([2] * 11 + [1], 11), ([1] * 12, 0), ([-10 ** 30], 0),
]


class ErrorChecks:
    """A base class of tests that ask for an error of one class with one value."""

    def assert_raises_with(self, kind, value, call):
        with self.assertRaises(kind) as held:
            call()
        self.assertIs(type(held.exception), kind)
        self.assertEqual(held.exception.value, value)
