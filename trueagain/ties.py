"""Ties: what a step hangs on as a person tells it, and what is wrong with that."""

from trueagain.bonds import bar_each_other
from trueagain.errors import BadName, BadSight, NotTrue
from trueagain.looks import as_sight
from trueagain.paths import ROOT, STROKE, beginning, is_beneath, is_name, name_not_in, paths_above
from trueagain.patterns import (MANY, ONE, fewest_names, parts_in, rows_of, shortest_missed, some_matches, standing_for,
                                state_behind)
from trueagain.rules import fault_of
from trueagain.steps import check_holds
from trueagain.worlds import can_be_done


class Ties:
    """The files, the settings and the tool that a step is told to hang on."""

    def __init__(self, patterns, settings=(), tool=False):
        self.rows = rows_of(patterns)
        for thing in settings:
            if not is_name(thing):
                raise BadName(thing)
        self.tied_settings = sorted(set(settings))
        self.tied_tool = tool

    def key(self, world):
        """Return all that a tool with these ties looks at in a world."""
        files = world.files()
        tied = [(path, files[path]) for path in files if self.is_tied(path)]
        settings = [(name, world.answer(("setting", name))) for name in self.tied_settings]
        return (tuple(tied), tuple(settings), world.tool if self.tied_tool else None)

    def leaves(self, before, now):
        """Tell whether two worlds have the same key, so that the step is left out."""
        return self.key(before) == self.key(now)

    def holds(self, world, sight):
        """Tell whether a sight that is true in a world is true in all worlds with the same key."""
        plain = as_sight(sight)
        if plain is None:
            raise BadSight(0)
        if world.answer(plain[0]) != plain[1]:
            raise NotTrue(0)
        return self.undoing(plain, world) is None

    def loose(self, run, world):
        """List the sights of a run that are not held."""
        check_holds(run, world)
        return [sight for sight in run.sights if self.undoing(sight, world) is not None]

    def wrong(self, run, world):
        """Return a fault with as few changes as possible to a world with the same key, or None."""
        rows = [self.undoing(sight, world) for sight in self.loose(run, world)]
        return fault_of(run, world, min(rows, key=len)) if len(rows) > 0 else None

    def needless(self, run, world):
        """Return a change behind which the key is another one though a run still holds, or None."""
        check_holds(run, world)
        looks = {look: True for look, answer in run.sights}
        if self.tied_tool and ("tool",) not in looks:
            return ("tool", name_not_in([world.tool]))
        for name in self.tied_settings:
            if ("setting", name) not in looks:
                return ("set", name, name_not_in([world.answer(("setting", name))]))
        files = world.files()
        for path in files:
            if ("read", path) not in looks and self.is_tied(path):
                return ("put", path, name_not_in([files[path]]))
        path = self.needless_path(run, world)
        return None if path is None else ("put", path, "")

    def is_tied(self, path):
        """Tell whether a file is tied."""
        return some_matches(self.rows, path)

    def undoing(self, sight, world):
        """Return as few changes as possible that make a sight untrue and leave the key, or None.

        The names of a folder need a new file there alone: if all of these are tied, all that is there is.
        """
        look, answer = sight
        if look[0] == "tool":
            return None if self.tied_tool else [("tool", name_not_in([answer]))]
        if look[0] == "setting":
            return None if look[1] in self.tied_settings else [("set", look[1], name_not_in([answer]))]
        if look[0] == "read":
            return self.putting(look[1], name_not_in([answer]), world)
        names = [] if answer is None else [entry.removesuffix(STROKE) for entry in answer]
        path = self.untied_beneath(look[1], names)
        return None if path is None else self.putting(path, "", world)

    def putting(self, path, text, world):
        """Return as few changes as possible that put a file and leave the key, or None."""
        blocking = [there for there in world.files() if is_beneath(path, there) or is_beneath(there, path)]
        if any([self.is_tied(there) for there in [path] + blocking]):
            return None
        return [("drop", there) for there in blocking] + [("put", path, text)]

    def untied_beneath(self, place, names):
        """Return the path of a file in a folder that is not tied and begins with none of some names there, or None."""
        row = ([] if place == ROOT else place.split(STROKE)) + [ONE, MANY]
        return shortest_missed(self.rows, row, name_not_in(parts_in(self.rows) + names))

    def needless_path(self, run, world):
        """Return the path of a tied file that is lacking and can be put, though a run still holds, or None."""
        known = known_places(run, world)
        word = name_not_in([name for place in known for name in place.split(STROKE)])
        for place in known:
            if place != ROOT and self.is_tied(place) and can_come(place, run, world):
                return place
            # One path that leads away from all that is known tells of all others from there.
            if can_come(beginning(place) + word, run, world):
                for name, path in self.tied_from(place, word):
                    if beginning(place) + name not in known:
                        return path
        return None

    def tied_from(self, place, word):
        """List paths of tied files beneath a place, for each way to go on one, with their first names there."""
        names = [] if place == ROOT else place.split(STROKE)
        found = []
        for row, places in zip(self.rows, state_behind(self.rows, names)):
            for at in places:
                if at < len(row):
                    name = standing_for(row[at], word)
                    found.append((name, "/".join(names + [name] + fewest_names(row[at + 1:], word))))
        return found


def known_places(run, world):
    """Return in a dict the root and all paths, with those above, of files in a world and looks of a run."""
    paths = list(world.files()) + [look[1] for look, answer in run.sights if look[0] in ("read", "list")]
    known = {ROOT: True}
    for path in paths:
        for place in paths_above(path) + [path]:
            known[place] = True
    return known


def can_come(path, run, world):
    """Tell whether a file that is lacking in a world can be put there so that a run still holds."""
    if path in world or not can_be_done(world, ("put", path, "")):
        return False
    return not any([bar_each_other(sight, (("read", path), "")) for sight in run.sights])
