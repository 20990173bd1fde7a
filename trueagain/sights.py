"""Sights: which can be true together, and what follows from them."""

from trueagain.bonds import bar_each_other, first_apart, follows_from
from trueagain.errors import Apart, BadLook, BadSight
from trueagain.looks import as_look, as_sight
from trueagain.paths import STROKE, beginning, is_beneath, name_numbered
from trueagain.worlds import World


def is_sight(thing):
    """Tell of any object whether it is a sight."""
    return as_sight(thing) is not None


def bars(one, other):
    """Tell whether two sights bar each other."""
    plain = plain_sights([one, other])
    return bar_each_other(plain[0], plain[1])


def apart(sights):
    """Return the first pair of numbers of sights that bar each other, or None."""
    return first_apart(plain_sights(sights))


def world_of(sights):
    """Return a world in which all sights are true."""
    plain = plain_sights(sights)
    check_together(plain)
    told = {look: answer for look, answer in plain if answer is not None}
    settings = {look[1]: told[look] for look in told if look[0] == "setting"}
    return World(files_of(plain), settings, told.get(("tool",), ""))


def follows(sights, sight):
    """Tell whether a sight is true in all worlds in which the sights are."""
    plain = plain_sights(sights)
    last = as_sight(sight)
    if last is None:
        raise BadSight(len(plain))
    check_together(plain)
    return any([follows_from(one, last) for one in plain])


def least(sights):
    """List the sights that follow from no other one, of equal ones the first."""
    plain = plain_sights(sights)
    check_together(plain)
    unlike = [one for index, one in enumerate(plain) if one not in plain[:index]]
    return [one for one in unlike if not follows_from_another(unlike, one)]


def sure(sights, look):
    """Return in a tuple the answer that the look has wherever the sights are true, or None."""
    plain = plain_sights(sights)
    asked = as_look(look)
    if asked is None:
        raise BadLook(look)
    check_together(plain)
    for one in plain:
        if one[0] == asked:
            return (one[1],)
    lost = (asked, None)
    return (None,) if any([follows_from(one, lost) for one in plain]) else None


def plain_sights(things):
    """List the sights that things are, with tuples; raise BadSight for the first that is none."""
    plain = [as_sight(thing) for thing in things]
    for index, sight in enumerate(plain):
        if sight is None:
            raise BadSight(index)
    return plain


def check_together(plain):
    """Raise Apart if no world has all of these sights."""
    pair = first_apart(plain)
    if pair is not None:
        raise Apart(pair[0], pair[1])


def follows_from_another(unlike, sight):
    """Tell whether a sight follows from one of some unlike sights other than itself."""
    return any([one != sight and follows_from(one, sight) for one in unlike])


def files_of(plain):
    """Return the files of a world in which all of some sights that go together are true."""
    files = {look[1]: answer for look, answer in plain if look[0] == "read" and answer is not None}
    listings = [(look[1], answer) for look, answer in plain if look[0] == "list" and answer]
    # Longer places first: a folder that has its own names then has its files already.
    for place, names in sorted(listings, key=lambda pair: (-len(pair[0]), pair[0])):
        for name in names:
            path = beginning(place) + name.removesuffix(STROKE)
            if not name.endswith(STROKE):
                files.setdefault(path, "")
            elif not any([is_beneath(there, path) for there in files]):
                files[free_path(path, plain)] = ""
    return files


def free_path(folder, plain):
    """Return a path in a folder that no sight tells to be lacking."""
    lacking = [look[1] for look, answer in plain if look[0] == "read" and answer is None]
    number = 0
    while beginning(folder) + name_numbered(number) in lacking:
        number += 1
    return beginning(folder) + name_numbered(number)
