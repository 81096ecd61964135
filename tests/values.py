"""Values that several tests need."""


class Pretender:
    """A value that claims to equal every other one."""

    def __eq__(self, other):
        return True

    __hash__ = None


def names(many, sign="n"):
    """Return so many different names."""
    return [f"{sign}{number}" for number in range(many)]


WRONG_NAMES = [
    "", "abcdefghijklm", "A", "aB", "a b", " a", "a ", "a\n", "\n", "a-b", "a_b", "a.b",
    "\u00e9", "\u00df", "\u0430", "\u00b2", "\u0663", "\uff11", "a\x00",
    0, 7, -1, 10 ** 3999, None, True, False, [], ["a"], ("a",), {"a": 1}, {"a"}, b"a", 1.5,
    Pretender(),
]

# None of these is a name of a table with the lamps a, b and the looks x, y.
UNKNOWN_NAMES = ["q", "aa", "ab", *WRONG_NAMES]

RIGHT_NAMES = [
    "a", "z", "0", "9", "00", "01", "a1", "1a", "abcdefghijkl", "mnopqrstuvwx", "yz0123456789",
    "012345678901",
]
