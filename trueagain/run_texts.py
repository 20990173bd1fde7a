"""Runs as texts, a line for each sight and one for the end."""

from trueagain.errors import BadLine
from trueagain.looks import as_look, as_sight
from trueagain.paths import ROOT, STROKE
from trueagain.steps import Run

SIGN = " : "
NOTHING = "-"
QUOTE = '"'


def write_run(run):
    """Return the text of a run."""
    lines = [look_text(look) + SIGN + answer_text(answer) for look, answer in run.sights]
    return "\n".join(lines + ["end" + SIGN + answer_text(run.outcome)])


def read_run(text):
    """Return the run with a text."""
    lines = text.split("\n")
    sights = []
    looks = {}
    for index, line in enumerate(lines[:-1]):
        sight = sight_in(line)
        if sight is None or sight[0] in looks:
            raise BadLine(index)
        looks[sight[0]] = True
        sights.append(sight)
    outcome = outcome_in(lines[-1])
    if outcome is None:
        raise BadLine(len(sights))
    return Run(sights, outcome)


def look_text(look):
    """Return the text of a look."""
    if len(look) == 1:
        return look[0]
    return look[0] + " " + (STROKE if look[1] == ROOT else look[1])


def answer_text(answer):
    """Return the text of an answer or of an outcome."""
    if answer is None:
        return NOTHING
    if isinstance(answer, str):
        return QUOTE + answer + QUOTE
    return "(" + " ".join(answer) + ")"


def sight_in(line):
    """Return the sight that a line tells, or None if it tells none."""
    head, sign, shown = line.partition(SIGN)
    answers = answers_in(shown)
    return as_sight((look_in(head), answers[0])) if len(answers) > 0 else None


def outcome_in(line):
    """Return the outcome that a line tells, or None if it tells none."""
    head, sign, shown = line.partition(SIGN)
    answers = answers_in(shown)
    if head != "end" or len(answers) == 0 or not isinstance(answers[0], str):
        return None
    return answers[0]


def look_in(head):
    """Return the look that the head of a line tells, or None if it tells none."""
    if head == "tool":
        return ("tool",)
    word, space, where = head.partition(" ")
    if where == ROOT:
        return None
    return as_look((word, ROOT if where == STROKE else where))


def answers_in(shown):
    """List the answer that the end of a line tells, or nothing if it tells none."""
    inside = shown[1:-1]
    if shown == NOTHING:
        return [None]
    if is_between(shown, QUOTE, QUOTE):
        return [inside]
    if is_between(shown, "(", ")"):
        return [tuple(inside.split(" ")) if inside != "" else ()]
    return []


def is_between(text, first, last):
    """Tell whether a text begins and ends with these signs."""
    return len(text) > 1 and text.startswith(first) and text.endswith(last)
