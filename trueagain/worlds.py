"""Worlds, what is seen of them, and the changes between them."""

from trueagain.errors import BadChange, BadLook, BadName, BadPath, Blocked
from trueagain.looks import as_look, is_row
from trueagain.paths import ROOT, STROKE, beginning, is_name, is_path, paths_above, rest_in


class World:
    """What a step can look at: files, settings and the tool's own text."""

    def __init__(self, files, settings=None, tool=""):
        chosen = {} if settings is None else settings
        check_files(files)
        check_settings(chosen)
        self.contents = {path: files[path] for path in sorted(files)}
        self.chosen = {name: chosen[name] for name in sorted(chosen)}
        self.tool = tool

    def files(self):
        """Return a dict from the paths of the files to their contents, ascending."""
        return dict(self.contents)

    def settings(self):
        """Return a dict from the names of the settings to their texts, ascending."""
        return dict(self.chosen)

    def answer(self, look):
        """Return what a look shows here."""
        plain = as_look(look)
        if plain is None:
            raise BadLook(look)
        if plain[0] == "tool":
            return self.tool
        if plain[0] == "setting":
            return self.chosen.get(plain[1])
        if plain[0] == "read":
            return self.contents.get(plain[1])
        return listing(self.contents, plain[1])

    def after(self, changes):
        """Return the world behind a list of changes, one after the other."""
        world = World(self.contents, self.chosen, self.tool)
        for index, change in enumerate(changes):
            if not is_change(change) or not can_be_done(world, change):
                raise BadChange(index)
            world = changed(world, change)
        return world

    def __len__(self):
        return len(self.contents)

    def __contains__(self, x):
        return isinstance(x, str) and x in self.contents

    def __eq__(self, other):
        return (isinstance(other, World) and self.contents == other.contents
                and self.chosen == other.chosen and self.tool == other.tool)


def check_files(files):
    """Raise BadPath or Blocked if these cannot be the files of a world."""
    for path in files:
        if not is_path(path):
            raise BadPath(path)
    earlier = {}
    folders = {}
    for path in files:
        tops = paths_above(path)
        if path in folders or any([top in earlier for top in tops]):
            raise Blocked(path)
        earlier[path] = True
        for top in tops:
            folders[top] = True


def check_settings(settings):
    """Raise BadName if these cannot be the settings of a world."""
    for name in settings:
        if not is_name(name):
            raise BadName(name)


def listing(paths, place):
    """Return the names in a folder as a list look shows them, or None if it is no folder."""
    rests = [rest_in(path, place) for path in paths if path.startswith(beginning(place))]
    # A stroke comes ahead of all letters, so entries ascend as their names do.
    entries = sorted({entry_of(rest) for rest in rests})
    return tuple(entries) if entries or place == ROOT else None


def entry_of(rest):
    """Return the first name of what is left of a path, with a stroke if more comes behind."""
    parts = rest.partition(STROKE)
    return parts[0] + parts[1]


def is_change(thing):
    """Tell of any object whether it is a change, of whatever world."""
    if not is_row(thing, 2) and not is_row(thing, 3):
        return False
    if not isinstance(thing[0], str):
        return False
    if len(thing) == 2:
        return is_short_change(thing[0], thing[1])
    return is_long_change(thing[0], thing[1], thing[2])


def is_short_change(word, thing):
    """Tell of a word and any object whether they are the items of a change."""
    if word == "drop":
        return is_path(thing)
    return word == "tool" and isinstance(thing, str)


def is_long_change(word, where, text):
    """Tell of a word and any two objects whether they are the items of a change."""
    if word == "put":
        return is_path(where) and isinstance(text, str)
    return word == "set" and is_name(where) and (text is None or isinstance(text, str))


def can_be_done(world, change):
    """Tell whether a world lets a change be done."""
    if change[0] == "put":
        blocked = any([top in world for top in paths_above(change[1])])
        return not blocked and world.answer(("list", change[1])) is None
    return change[0] != "drop" or change[1] in world


def changed(world, change):
    """Return the world behind one change that can be done there."""
    files, settings, tool = world.files(), world.settings(), world.tool
    if change[0] == "put":
        files[change[1]] = change[2]
    elif change[0] == "drop":
        del files[change[1]]
    elif change[0] == "tool":
        tool = change[1]
    elif change[2] is None:
        settings.pop(change[1], None)
    else:
        settings[change[1]] = change[2]
    return World(files, settings, tool)


def changes_between(one, other):
    """Return the fewest changes that lead from one world to another."""
    before, behind = one.files(), other.files()
    drops = [("drop", path) for path in before if path not in behind]
    puts = [("put", path, behind[path]) for path in behind if before.get(path) != behind[path]]
    tools = [("tool", other.tool)] if one.tool != other.tool else []
    return drops + puts + changed_settings(one.settings(), other.settings()) + tools


def changed_settings(before, behind):
    """List the changes that lead from some settings to others, names ascending."""
    names = sorted(set(list(before) + list(behind)))
    return [("set", name, behind.get(name)) for name in names if before.get(name) != behind.get(name)]
