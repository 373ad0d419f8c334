"""Whether a program makes sense, and if not, at which row and why."""

from holdwright.steps import Call
from holdwright.using import bare_name, is_length, rows_of_step, steps_within

# In the order in which they are told where several are due in a row.
WHYS = ("twice", "fixed", "kind", "unknown", "given", "stranger")


def sensible(program):
    before = {}
    for helper in program.helpers:
        wrong = first_wrong(rows_of_head(helper, before) + rows_of_body(helper, before))
        if wrong is not None:
            return wrong
        before[helper.name] = helper
    return None


# Of rows (at, things, due): those things are used there, and due are the whys that other rows' uses don't make.
def first_wrong(rows):
    used = {}
    for at, things, due in rows:
        for thing in things:
            used[thing] = True
        kinds = ["kind"] if any([other_use(thing) in used for thing in things]) else []
        for why in WHYS:
            if why in due + kinds:
                return (at, why)
    return None


def other_use(thing):
    return bare_name(thing) if is_length(thing) else "#" + thing


def rows_of_head(helper, before):
    names = bare_names(helper.params)
    twice = helper.name in before or has_twice(names)
    rows = [(helper.at, helper.params, ["twice"] if twice else [])]
    if len(helper.answers) > 0:
        # The helper itself doesn't keep where this row is, which stands right behind its first one.
        twice = has_twice(names + list(helper.answers))
        rows.append((helper.at + 1, helper.answers, ["twice"] if twice else []))
    rows.extend(rows_of_writings(helper.needs, helper.params))
    rows.extend(rows_of_writings(helper.gives, helper.params + helper.answers))
    return rows


def rows_of_writings(writings, known):
    rows = []
    for at, condition in writings:
        things = condition.things()
        strange = any([thing not in known for thing in things])
        rows.append((at, things, ["stranger"] if strange else []))
    return rows


def rows_of_body(helper, before):
    fixed = bare_names(helper.params)
    rows = []
    for step in steps_within(helper.steps):
        # Loops alone have further rows, and nothing is due of a loop: so what is due is so at the step's own row.
        due = dues_of_step(step, fixed, before)
        rows.extend([(at, things, due) for at, things in rows_of_step(step)])
    return rows


def dues_of_step(step, fixed, before):
    due = []
    if any([name in fixed for name in bare_names(step.writes())]):
        due.append("fixed")
    if isinstance(step, Call):
        due.extend(dues_of_call(step, before))
    return due


def dues_of_call(step, before):
    due = []
    if has_twice(step.names):
        due.append("twice")
    if step.helper not in before:
        due.append("unknown")
    elif not fits(step, before[step.helper]):
        due.append("given")
    return due


def fits(step, called):
    if len(step.given) != len(called.params) or len(step.names) != len(called.answers):
        return False
    return all([is_row_alone(total) for param, total in zip(called.params, step.given) if is_length(param)])


def is_row_alone(total):
    return total.number == 0 and len(total.terms) == 1 and total.terms[0][1] == 1 and is_length(total.terms[0][0])


def bare_names(things):
    return [bare_name(thing) for thing in things]


def has_twice(names):
    return len(set(names)) < len(names)
