"""The desk: plans shown as rows, and jobs answered."""

from furrow.errors import NoText
from furrow.freeing import freest
from furrow.looker import looked
from furrow.maker import made
from furrow.plain import done, turns
from furrow.plans import own_plan
from furrow.reader import read
from furrow.turnings import cut, freed, joined, moved, parted, swapped, turned
from furrow.weaver import order
from furrow.words import bare_row, number_of, words_of

MOST_TURNS = 2000
# What the words behind a turning's first word tell.
FORMS = {
    "swap": ("path",),
    "join": ("path",),
    "part": ("path", "number"),
    "turn": ("path",),
    "move": ("path", "number", "shift"),
    "cut": ("path",),
    "free": ("path",),
    "freest": (),
}


def shown(plan):
    return "\n".join(shown_items(plan, ""))


def shown_items(items, blanks):
    rows = []
    for item in items:
        if item[0] == "deed":
            rows.append(blanks + "deed " + " ".join([str(item[1])] + [shown_pair(pair) for pair in item[2]]))
        else:
            rows.append(blanks + ("cut " if item[1] else "whole ") + item[2])
            rows.extend(shown_items(item[3], blanks + " "))
    return rows


def shown_pair(pair):
    loop = pair[0]
    shift = pair[1]
    if shift < 0:
        # A number below nought brings its own sign.
        return f"{loop}{shift}"
    return f"{loop}+{shift}"


def answered(job, cells, widths, picks):
    rows = [bare_row(row) for row in job.split("\n")]
    if "plan" not in rows:
        raise NoText(len(rows) + 1)
    at = rows.index("plan")
    program = read("\n".join(rows[:at]))
    plan = own_plan(program)
    # All rows are read ahead of the first turning: a row without its form is
    # refused ahead of a turning that can't be.
    for step in steps_behind(rows, at):
        plan = plan_behind(program, plan, step)
    answer = looked(program, plan)
    if answer[0] == "bad":
        return answer
    # Too many turns are refused ahead of wrong widths.
    turns(program, MOST_TURNS)
    told = order(made(program, plan), widths, picks)
    return ("done", shown(plan), done(program, told, cells))


def steps_behind(rows, at):
    steps = []
    for number in range(at + 1, len(rows)):
        if rows[number] != "":
            step = step_of(words_of(rows[number]))
            if step is None:
                raise NoText(number + 1)
            steps.append(step)
    return steps


def step_of(words):
    form = FORMS.get(words[0])
    if form is None or len(words) != 1 + len(form):
        return None
    step = [words[0]] + [told_by(word, kind) for word, kind in zip(words[1:], form)]
    return step if all([part is not None for part in step]) else None


def told_by(word, kind):
    if kind == "path":
        return path_of(word)
    if kind == "shift":
        return shift_of(word)
    return number_of(word)


def path_of(word):
    path = tuple([number_of(part) for part in word.split(".")])
    return path if all([number is not None for number in path]) else None


def shift_of(word):
    if not word.startswith("-"):
        return number_of(word)
    number = number_of(word[1:])
    # There is no nought below nought.
    if number is None or number == 0:
        return None
    return -number


def plan_behind(program, plan, step):
    if step[0] == "freest":
        return freest(program, plan)
    if step[0] == "swap":
        return swapped(plan, step[1])
    if step[0] == "join":
        return joined(plan, step[1])
    if step[0] == "part":
        return parted(plan, step[1], step[2])
    if step[0] == "turn":
        return turned(plan, step[1])
    if step[0] == "move":
        return moved(plan, step[1], step[2], step[3])
    if step[0] == "cut":
        return cut(plan, step[1])
    return freed(plan, step[1])
