"""Many worlds, each a bit of a number, and steps that are drawn over what is seen in them.

What steps do is found out here world by world, so it does not hang on what the package knows of sights.
"""

from itertools import product

from all_worlds import listings, paths_of, small_worlds
from trueagain.steps import Step
from trueagain.worlds import World

PATHS = ("a", "b", "a/a", "a/b", "b/a", "b/b")
OUTCOMES = ("good", "bad", "so")


class Space:
    """Some worlds, and looks with answers such that worlds with all other answers are among them."""

    def __init__(self, worlds, answers):
        self.worlds = worlds
        self.answers = answers
        self.everywhere = (1 << len(worlds)) - 1
        self.shown = {}

    def showing(self, look):
        """A dict from all answers of a look to a number that tells in which worlds it has them."""
        if look not in self.shown:
            bits = {}
            for number, world in enumerate(self.worlds):
                answer = world.answer(look)
                bits[answer] = bits.get(answer, 0) | 1 << number
            self.shown[look] = bits
        return self.shown[look]

    def where(self, sights):
        """The worlds in which all sights are true."""
        bits = self.everywhere
        for look, answer in sights:
            bits &= self.showing(look).get(answer, 0)
        return bits

    def ways(self, ask, bits):
        """The trees that an ask chooses from, each with the worlds among these that go there."""
        _, look, cases, other = ask
        rows = [(part, bits & self.showing(look).get(answer, 0)) for answer, part in cases]
        for _, taken in rows:
            bits &= ~taken
        return rows + [(other, bits)]

    def ends(self, tree, bits):
        """A dict from outcomes to those of these worlds in which a tree ends so."""
        if tree[0] == "end":
            return {tree[1]: bits} if bits else {}
        found = {}
        for part, taken in self.ways(tree, bits):
            for outcome, there in self.ends(part, taken).items():
                found[outcome] = found.get(outcome, 0) | there
        return found

    def pruned(self, tree, bits):
        """The tree that is left of a tree which just these worlds come to."""
        if tree[0] == "end":
            return tree
        rows = self.ways(tree, bits)
        kept = [(case[0], self.pruned(part, taken)) for case, (part, taken) in zip(tree[2], rows) if taken]
        other = self.pruned(*rows[-1]) if rows[-1][1] else None
        left = [part for _, part in kept] + ([other] if other else [])
        if len(left) == 1 or (left[0][0] == "end" and all(part == left[0] for part in left)):
            return left[0]
        assert other, "an other is never left out where two cases stay"
        return ("ask", tree[1], tuple(kept), other)

    def world(self, draw):
        return draw.choice(self.worlds)

    def step(self, draw, depth, outcomes=OUTCOMES):
        return Step(self.tree(draw, depth, outcomes, ()))

    def tree(self, draw, depth, outcomes, above):
        if depth == 0 or draw.random() < 0.15:
            return ("end", draw.choice(outcomes))
        look = draw.choice([look for look in self.answers if look not in above])
        known = self.answers[look]
        chosen = draw.sample(known, draw.randint(0, min(3, len(known))))
        parts = [self.tree(draw, depth - 1, outcomes, above + (look,)) for _ in range(len(chosen) + 1)]
        return ("ask", look, list(zip(chosen, parts)), parts[-1])


def tree_space():
    """Files in folders; in the steps no file y and no name c, which stand for all that is not told of."""
    answers = {("read", path): [None, "x"] for path in PATHS}
    answers[("list", "")] = listings("ab")
    for place in ("a", "b"):
        answers[("list", place)] = [names or None for names in listings("ab")]
    answers.update({("list", "a/a"): [None], ("list", "b/b"): [None]})
    return Space(small_worlds(), answers)


def told(keys, texts):
    """A dict from keys to texts, without those that are None."""
    return {key: text for key, text in zip(keys, texts) if text is not None}


def mixed_space():
    """A few files, two settings and the tool; in the steps no text y and no name c."""
    texts = (None, "x", "y")
    worlds = []
    for chosen in product(texts, texts, (None, "y"), texts, (None, "y"), texts, texts, ("", "x", "y")):
        files = told(("a", "a/b", "a/c", "b", "c"), chosen)
        if "a" not in files or ("a/b" not in files and "a/c" not in files):
            worlds.append(World(files, told(("s", "t"), chosen[5:]), chosen[7]))
    answers = {("read", path): [None, "x"] for path in ("a", "a/b", "b")}
    answers[("list", "")] = [names for names in listings("ab") if "b/" not in names]
    answers[("list", "a")] = [None]
    answers.update({("setting", "s"): [None, "x"], ("setting", "t"): [None, "x"], ("tool",): ["", "x"]})
    return Space(worlds, answers)


def chain_space():
    """Files a, b and c in folders a up to four deep; in the steps no text y and no name c."""
    states = [None, "x", "y"]
    for _ in range(3):
        states = [None, "x", "y"] + in_folders(states)
    worlds = [World(paths_of(held)) for held in [{}] + in_folders(states)]
    names = [names for names in listings("ab") if "b/" not in names]
    answers = {("read", path): [None, "x"] for path in ("a", "a/a", "a/a/a", "a/a/a/a", "b", "a/b", "a/a/b", "a/a/a/b")}
    answers[("list", "")] = names
    for place in ("a", "a/a"):
        answers[("list", place)] = [row or None for row in names]
    answers[("list", "a/a/a")] = [row or None for row in names if "a/" not in row]
    return Space(worlds, answers)


def in_folders(states):
    """All folders, not empty, with an a of one of the states and files b and c."""
    found = []
    for chosen in product(states, (None, "x", "y"), (None, "y")):
        held = told("abc", chosen)
        if held:
            found.append(held)
    return found
