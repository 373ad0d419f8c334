"""What is owed in a helper: one Debt for each place where something may go wrong, on each way that leads there."""

from holdwright.conditions import Compare, Every
from holdwright.errors import TooMany
from holdwright.steps import Call, Choose, Claim, Divide, Fetch, Let, Make, Repeat, length_of
from holdwright.sums import Sum, once
from holdwright.using import is_length, other_things, steps_within, things_written

MOST_PATHS = 16

MOST_DEBTS = 100

# No program has such names, so they stand for what a step reckons on the way.
DIVIDED = "^"
QUOTIENT = "^^"


class Debt:
    def __init__(self, kind, at, ahead, condition):
        self.kind = kind
        self.at = at
        # Kept as it is handed in, a list too: so the document has it of this field.
        self.ahead = ahead
        self.condition = condition


# The Debts that are found while the paths of a helper are gone. What owes tells the path that goes on behind it.
class Book:
    def __init__(self, program):
        self.program = program
        self.found = []

    def owe(self, path, kind, at, condition):
        if len(self.found) == MOST_DEBTS:
            raise TooMany(f"more than {MOST_DEBTS} debts")
        self.found.append(Debt(kind, at, path, condition))
        return path + (hold(condition),)

    def owe_each(self, path, kind, writings):
        for at, condition in writings:
            path = self.owe(path, kind, at, condition)
        return path


def debts(program, name):
    helper = program.named(name)
    count_paths(helper.steps)
    book = Book(program)
    for path in go_steps(book, path_at_first(helper), helper.steps):
        book.owe_each(path, "gives", helper.gives)
    return book.found


# How many paths come of one behind these steps. They become no fewer from step to step, so those behind the last one
# are the most.
def count_paths(steps):
    count = 1
    for step in steps:
        within = [count_paths(block) for block in step.blocks()]
        if isinstance(step, Choose):
            count = count * sum(within)
    if count > MOST_PATHS:
        raise TooMany(f"more than {MOST_PATHS} paths")
    return count


def at_most(one, other):
    return Compare(one, "<=", other)


def from_nought(total):
    return at_most(Sum((), 0), total)


def let(thing, total):
    return ("let", thing, total)


def hold(condition):
    return ("hold", condition)


def holds_of(writings):
    return tuple([hold(condition) for at, condition in writings])


def rows_of_any(thing):
    if is_length(thing):
        return (("any", thing), hold(from_nought(once(thing))))
    return (("any", thing),)


def path_at_first(helper):
    path = ()
    for param in helper.params:
        path = path + rows_of_any(param)
    for thing in other_things(helper):
        path = path + (let(thing, Sum((), 0)),)
    return path + holds_of(helper.needs)


# The paths that come of one path by the steps.
def go_steps(book, path, steps):
    paths = [path]
    for step in steps:
        found = []
        for each in paths:
            found.extend(go_step(book, each, step))
        paths = found
    return paths


def go_step(book, path, step):
    if isinstance(step, Choose):
        return go_choose(book, path, step)
    if isinstance(step, Repeat):
        return [go_repeat(book, path, step)]
    if isinstance(step, Call):
        return [go_call(book, path, step)]
    if isinstance(step, Divide):
        return [go_divide(book, path, step)]
    return [go_plain(book, path, step)]


def go_plain(book, path, step):
    if isinstance(step, Let):
        return path + (let(step.name, step.total),)
    if isinstance(step, Claim):
        return book.owe(path, "claim", step.at, step.condition)
    if isinstance(step, Make):
        path = book.owe(path, "short", step.at, from_nought(step.size))
        return path + (let(length_of(step.row), step.size),)
    path = book.owe(path, "beyond", step.at, is_within(step))
    if isinstance(step, Fetch):
        return path + rows_of_any(step.name)
    return path


def is_within(step):
    last = once(length_of(step.row)).less(Sum((), 1))
    return Every([from_nought(step.place), at_most(step.place, last)])


def go_divide(book, path, step):
    path = book.owe(path, "nought", step.at, Compare(step.by, "!=", Sum((), 0)))
    if len(step.by.terms) > 0 or step.by.number == 0:
        return path + rows_of_any(step.name)
    by = step.by.number
    path = path + (let(DIVIDED, step.total),) + rows_of_any(QUOTIENT) + (hold(is_quotient(by)),)
    if step.word == "div":
        return path + (let(step.name, once(QUOTIENT)),)
    return path + (let(step.name, once(DIVIDED).less(once(QUOTIENT).times(by))),)


def is_quotient(by):
    divided = once(DIVIDED)
    product = once(QUOTIENT).times(by)
    if by > 0:
        return Every([at_most(product, divided), at_most(divided, product.plus(Sum((), by - 1)))])
    return Every([at_most(divided, product), at_most(product.plus(Sum((), by + 1)), divided)])


def go_choose(book, path, step):
    paths = go_steps(book, path + (hold(step.condition),), step.then)
    paths.extend(go_steps(book, path + (hold(step.condition.opposite()),), step.other))
    return paths


def go_repeat(book, path, step):
    path = book.owe_each(path, "first", step.keeps)
    for thing in things_written(step.body):
        path = path + rows_of_any(thing)
    path = path + holds_of(step.keeps)
    # A round's paths end with it, and loops within one another may have very many of them: so those that owe nothing
    # aren't gone.
    if any([is_owing(book.program, each) for each in steps_within([step])]):
        go_round(book, path + (hold(step.condition),), step)
    return path + (hold(step.condition.opposite()),)


def go_round(book, path, step):
    falls = []
    if step.falls is not None:
        at, total = step.falls
        begun = "~" + str(step.at)
        path = book.owe(path, "bound", at, from_nought(total)) + (let(begun, total),)
        falls = [(at, at_most(total, once(begun).less(Sum((), 1))))]
    for each in go_steps(book, path, step.body):
        behind = book.owe_each(each, "again", step.keeps)
        book.owe_each(behind, "falls", falls)


def go_call(book, path, step):
    called = book.program.named(step.helper)
    stands_for = {}
    for place, param in enumerate(called.params):
        if is_length(param):
            stands_for[param] = step.given[place]
        else:
            given = "^" + str(place)
            path = path + (let(given, step.given[place]),)
            stands_for[param] = once(given)
    if len(called.needs) > 0:
        path = book.owe(path, "needs", step.at, all_of(called.needs).put_in(stands_for))
    for name, answer in zip(step.names, called.answers):
        path = path + rows_of_any(name)
        stands_for[answer] = once(name)
    return path + tuple([hold(condition.put_in(stands_for)) for at, condition in called.gives])


def all_of(writings):
    conditions = [condition for at, condition in writings]
    return conditions[0] if len(conditions) == 1 else Every(conditions)


# Whether something is owed at this very step, those within it left out.
def is_owing(program, step):
    if isinstance(step, Repeat):
        return len(step.keeps) > 0 or step.falls is not None
    if isinstance(step, Call):
        return len(program.named(step.helper).needs) > 0
    return not isinstance(step, (Let, Choose))
