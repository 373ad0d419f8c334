"""Which things the rows of steps use, and which the steps write."""

from holdwright.steps import Repeat


# The steps at any depth, in the order in which they stand in the text.
def steps_within(steps):
    found = []
    for step in steps:
        found.append(step)
        for block in step.blocks():
            found.extend(steps_within(block))
    return found


# A pair (at, things) for the step's own row and for each row of its writings.
def rows_of_step(step):
    rows = [(step.at, step.uses())]
    if isinstance(step, Repeat):
        rows.extend([(at, condition.things()) for at, condition in step.keeps])
        if step.falls is not None:
            rows.append((step.falls[0], step.falls[1].things()))
    return rows


# The things that stand in a helper and aren't its params, rising.
def other_things(helper):
    found = list(helper.answers)
    for step in steps_within(helper.steps):
        for at, things in rows_of_step(step):
            found.extend(things)
    return sorted(set(found) - set(helper.params))


# The things that the steps write, rising.
def things_written(steps):
    found = []
    for step in steps_within(steps):
        found.extend(step.writes())
    return sorted(set(found))


def is_length(thing):
    return thing.startswith("#")


def bare_name(thing):
    return thing[1:] if is_length(thing) else thing
