"""Patterns found out about without the package: by a regular expression, path by path; and patterns that are drawn."""

import re
from functools import lru_cache
from itertools import product

PARTS = {"*": "[a-z]{1,8}/", "**": "(?:[a-z]{1,8}/)*"}
FRESH = "zq"
NO_PATTERNS = ("", "/", "a/", "/a", "a//b", "***", "a*", "*a", "a/***", "* ", " **", "*/", "/*", "**/", "/**", "a/B", "A", "?", "a/?",
               "a\n", "*\n", "**/*\n", "abcdefghi", "*/abcdefghi", "a b", ".", "..", "*/**/", "**//*", "a/[b]", "{a}", "\u00e4/*",
               "**a", "a**", "* *", "*,*", "\\*")


def is_told(pattern, path):
    """Tell whether a pattern matches a path."""
    return expression(pattern).fullmatch(path + "/") is not None


@lru_cache(maxsize=None)
def expression(pattern):
    # Double stars beside each other stand for no more than one does.
    parts = [part for at, part in enumerate(pattern.split("/")) if part != "**" or pattern.split("/")[at - 1:at] != ["**"]]
    return re.compile("".join(PARTS.get(part, part + "/") for part in parts))


def all_paths(names, count):
    """All paths of up to so many of these names, shorter ones first."""
    return ["/".join(row) for length in range(1, count + 1) for row in product(names, repeat=length)]


def shortest_expansion(patterns, pattern, longest):
    """The number of names of a shortest path that a pattern matches and none of the others does, or None.

    Each star stands for a name that no pattern has, which is as hard to match as any; each double star
    for up to so many of them.
    """
    choices = [[[FRESH] * count for count in range(longest + 1)] if part == "**" else [[FRESH if part == "*" else part]]
               for part in pattern.split("/")]
    rows = [sum(row, []) for row in product(*choices)]
    counts = [len(row) for row in rows if row and not any(is_told(other, "/".join(row)) for other in patterns)]
    return min(counts, default=None)


def drawn_pattern(draw, names, parts, stars=("*", "**", "**")):
    return "/".join(draw.choice(list(names) + list(stars)) for _ in range(draw.randint(1, parts)))


def drawn_patterns(draw, names, parts, most=5):
    return [drawn_pattern(draw, names, parts) for _ in range(draw.randint(0, most))]
