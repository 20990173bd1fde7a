"""Many small worlds and sights, and which of these sights are true in which of these worlds."""

from itertools import combinations, product

from trueagain.worlds import World

LEAVES = (None, "x")
TEXTS = (None, "x", "y")


def folders(names, states):
    """All folders, not empty, in which each name has one of the states: None, a text or a folder."""
    found = []
    for chosen in product(states, repeat=len(names)):
        held = {name: state for name, state in zip(names, chosen) if state is not None}
        if held:
            found.append(held)
    return found


def paths_of(folder, ahead=""):
    """The files of a folder, as a dict from paths to texts."""
    files = {}
    for name, state in folder.items():
        if isinstance(state, str):
            files[ahead + name] = state
        else:
            files.update(paths_of(state, ahead + name + "/"))
    return files


def with_spare(held):
    """The folders (a list) and the same with a file c, which stands in no sight below.

    So a folder can always be filled in a way that no sight tells of.
    """
    return held + [dict(folder, c="x") for folder in [{}] + held]


def small_worlds():
    """All worlds with names a and b, files up to three names deep, and files c, a/c and b/c."""
    low = list(TEXTS) + folders("ab", LEAVES)
    middle = list(TEXTS) + with_spare(folders("ab", low))
    return [World(paths_of(held)) for held in [{}] + with_spare(folders("ab", middle))]


def listings(names):
    """All answers that a list look can have with these names, the empty one too."""
    found = []
    for count in range(len(names) + 1):
        for chosen in combinations(names, count):
            found += [tuple(entries) for entries in product(*[(name, name + "/") for name in chosen])]
    return found


def small_sights():
    """Sights of files up to two names deep and of folders up to one name deep."""
    sights = [(("read", path), text) for path in ("a", "b", "a/a", "a/b", "b/a", "b/b") for text in TEXTS]
    sights += [(("list", ""), names) for names in listings("ab")]
    for place in ("a", "b"):
        sights += [(("list", place), names or None) for names in listings("ab")]
    return sights + [(("list", "a/a"), None), (("list", "b/b"), None)]


def truths(worlds, sights):
    """For each sight a number whose bits tell in which worlds it is true."""
    bits = [0] * len(sights)
    looks = {}
    for at, (look, answer) in enumerate(sights):
        looks.setdefault(look, {})[answer] = at
    for number, world in enumerate(worlds):
        for look, answers in looks.items():
            at = answers.get(world.answer(look))
            if at is not None:
                bits[at] |= 1 << number
    return bits
