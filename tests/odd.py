"""Objects of many kinds that stand for wrong inputs."""


class Touchy:
    """An object that must not be compared, counted or asked for its truth."""

    __hash__ = object.__hash__

    def __eq__(self, other):
        raise AssertionError("compared")

    def __len__(self):
        raise AssertionError("counted")

    def __bool__(self):
        raise AssertionError("asked for its truth")


class Yes:
    """An object that claims to be equal to everything."""

    __hash__ = object.__hash__

    def __eq__(self, other):
        return True


def endless():
    """Return a list that holds itself."""
    row = []
    row.append(row)
    return row


def deep():
    """Return a list that is nested too deep for recursion."""
    row = []
    for _ in range(100000):
        row = [row]
    return row


# None of these is a name, path, text, entry, look, change or sight.
NO_TEXTS = (0, 1, -1, 2.5, True, False, b"", b"a", b"read", Ellipsis, int, Touchy(), Yes(), frozenset("a"))
NO_ROWS = NO_TEXTS + ({}, {"read": "a"}, set(), {"read", "a"}, range(2), iter(()), {0: "read", 1: "a"})
ODD = NO_ROWS + (None, "", "a", "read", "ab", (), [], (None,), [[]], ((), ()), endless(), deep(),
                 (None, None), (None, None, None), (1, 2), (b"read", b"a"), (Yes(), Yes()), (Touchy(), Touchy()),
                 (Yes(), "a"), (Yes(),), (Yes(), "a", "x"), (True, "a"))
NO_STRINGS = tuple(thing for thing in ODD if not isinstance(thing, str))

NO_NAMES = ("", "A", "aB", "a1", "a_", "a b", "a-b", " a", "a ", "a\n", "a/", "/a", "a/b", "abcdefghi",
            "\u00e4", "\u0430", "a\u0301", "*", ".", "a\x00")
NO_PATHS = ("", "/", "a/", "/a", "a//b", "a/B", "a/b/", "A", "a/b c", "a\\b", "a/..", "a/abcdefghi", "abcdefghi/a",
            "a/\u00e4", "a/b\n", "*", "a/*")
