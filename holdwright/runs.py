"""Runs of a helper: its steps are done, and each writing is looked at as it is come to."""

from holdwright.errors import Fault, NoRun
from holdwright.steps import Call, Choose, Divide, Fetch, Let, Make, Put, Repeat, length_of
from holdwright.sums import is_number
from holdwright.using import bare_name, is_length, other_things


def run(program, name, given, most=1000):
    helper = program.named(name)
    if helper is None:
        raise NoRun(f"there is no helper {name}")
    if not all_fit(helper.params, given):
        raise NoRun(f"what is given doesn't fit the params of {name}")
    running = Running(program, most)
    own = [list(thing) if is_length(param) else thing for param, thing in zip(helper.params, given)]
    frame = frame_of(running, helper, own)
    for at, condition in helper.needs:
        fault_unless(condition.holds(frame.numbers), "needs", at)
    do_helper(running, frame)
    rows = [tuple(frame.rows[bare_name(param)]) for param in helper.params if is_length(param)]
    return (tuple([frame.numbers[answer] for answer in helper.answers]), tuple(rows))


def all_fit(params, given):
    if len(params) != len(given):
        return False
    return all([is_fit(param, thing) for param, thing in zip(params, given)])


def is_fit(param, thing):
    if is_length(param):
        return isinstance(thing, (list, tuple)) and all([is_number(number) for number in thing])
    return is_number(thing)


def fault_unless(truth, kind, at):
    if not truth:
        raise Fault(kind, at)


# What all helpers of one run have together.
class Running:
    def __init__(self, program, most):
        self.program = program
        self.most = most
        self.turns = 0
        # Kept by helper, since a helper may be done many times and is long to look through.
        self.others = {}

    def take_turn(self, at):
        self.turns = self.turns + 1
        fault_unless(self.turns <= self.most, "long", at)

    def things_beside(self, helper):
        if helper.name not in self.others:
            self.others[helper.name] = other_things(helper)
        return self.others[helper.name]


# What one helper has while it is done: the numbers of its things, lengths too, and its rows, which are lists that a
# caller may have as well.
class Frame:
    def __init__(self, helper):
        self.helper = helper
        self.numbers = {}
        self.rows = {}

    def set_row(self, name, row):
        self.rows[name] = row
        # No row changes its length, so this is right as long as the name has this row.
        self.numbers[length_of(name)] = len(row)


def frame_of(running, helper, given):
    frame = Frame(helper)
    for param, thing in zip(helper.params, given):
        if is_length(param):
            frame.set_row(bare_name(param), thing)
        else:
            frame.numbers[param] = thing
    for thing in running.things_beside(helper):
        if is_length(thing):
            frame.set_row(bare_name(thing), [])
        else:
            frame.numbers[thing] = 0
    return frame


def do_helper(running, frame):
    do_steps(running, frame, frame.helper.steps)
    for at, condition in frame.helper.gives:
        fault_unless(condition.holds(frame.numbers), "gives", at)


def do_steps(running, frame, steps):
    for step in steps:
        if isinstance(step, Repeat):
            do_repeat(running, frame, step)
        else:
            running.take_turn(step.at)
            do_step(running, frame, step)


def do_step(running, frame, step):
    if isinstance(step, Choose):
        do_steps(running, frame, step.then if step.condition.holds(frame.numbers) else step.other)
    elif isinstance(step, Call):
        do_call(running, frame, step)
    elif isinstance(step, Let):
        frame.numbers[step.name] = step.total.value(frame.numbers)
    elif isinstance(step, Divide):
        do_divide(frame, step)
    elif isinstance(step, Fetch):
        place = place_within(frame, step)
        frame.numbers[step.name] = frame.rows[step.row][place]
    elif isinstance(step, Put):
        place = place_within(frame, step)
        frame.rows[step.row][place] = step.total.value(frame.numbers)
    elif isinstance(step, Make):
        size = step.size.value(frame.numbers)
        fault_unless(size >= 0, "short", step.at)
        frame.set_row(step.row, [0] * size)
    else:
        fault_unless(step.condition.holds(frame.numbers), "claim", step.at)


def do_divide(frame, step):
    total = step.total.value(frame.numbers)
    by = step.by.value(frame.numbers)
    fault_unless(by != 0, "nought", step.at)
    frame.numbers[step.name] = total // by if step.word == "div" else total % by


def place_within(frame, step):
    place = step.place.value(frame.numbers)
    fault_unless(0 <= place < len(frame.rows[step.row]), "beyond", step.at)
    return place


def do_repeat(running, frame, step):
    for at, condition in step.keeps:
        fault_unless(condition.holds(frame.numbers), "first", at)
    running.take_turn(step.at)
    while step.condition.holds(frame.numbers):
        do_round(running, frame, step)
        running.take_turn(step.at)


def do_round(running, frame, step):
    begun = None
    if step.falls is not None:
        begun = step.falls[1].value(frame.numbers)
        fault_unless(begun >= 0, "bound", step.falls[0])
    do_steps(running, frame, step.body)
    for at, condition in step.keeps:
        fault_unless(condition.holds(frame.numbers), "again", at)
    if step.falls is not None:
        fault_unless(step.falls[1].value(frame.numbers) < begun, "falls", step.falls[0])


def do_call(running, frame, step):
    called = running.program.named(step.helper)
    given = [given_thing(frame, param, total) for param, total in zip(called.params, step.given)]
    inner = frame_of(running, called, given)
    for at, condition in called.needs:
        fault_unless(condition.holds(inner.numbers), "needs", step.at)
    do_helper(running, inner)
    for name, answer in zip(step.names, called.answers):
        frame.numbers[name] = inner.numbers[answer]


def given_thing(frame, param, total):
    if is_length(param):
        # Here the Sum is a row's length alone, and stands for the row itself.
        return frame.rows[bare_name(total.things()[0])]
    return total.value(frame.numbers)
