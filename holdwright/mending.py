"""Mending programs: what the writings of their loops lack is put in, where it can be shown."""

from holdwright.conditions import Compare
from holdwright.debts import at_most, debts, from_nought
from holdwright.errors import TooMany
from holdwright.looking import is_shown
from holdwright.programs import rows_of_program, text_of_rows
from holdwright.reading import GREATEST, read
from holdwright.steps import Repeat
from holdwright.sums import once
from holdwright.using import is_length, steps_within, things_written

MOST_CANDIDATES = 6

MOST_KEEPS = 12

MOST_ROWS = 200

MOST_TERMS = 8

# A counter often comes to the bound in the last round, where the loop's own condition holds no more.
LOOSER_SIGNS = {"<": "<=", ">": ">="}


# A row of the program's text, and whether it was put in.
class Line:
    def __init__(self, row, is_new):
        self.row = row
        self.is_new = is_new


# One of the program's loops, and the name of the helper in which it stands.
class Loop:
    def __init__(self, name, step):
        self.name = name
        self.step = step


def mended(program):
    first = [Line(row, False) for row in rows_of_program(program)]
    lines = first
    for number in range(len(loops_of(program))):
        lines = with_candidates(lines, number)
        lines = with_falling(lines, number)
    return program_of(lines if all_new_are_shown(lines) else first)


def program_of(lines):
    return read(text_of_rows([line.row for line in lines]))


def loops_of(program):
    found = []
    for helper in program.helpers:
        steps = steps_within(helper.steps)
        found.extend([Loop(helper.name, step) for step in steps if isinstance(step, Repeat)])
    return found


# The loop is told by its number among all, as the rows at which loops are change from one to the next.
def with_candidates(lines, number):
    loop = loops_of(program_of(lines))[number]
    most = max(0, min(MOST_CANDIDATES, MOST_KEEPS - len(loop.step.keeps), MOST_ROWS - len(lines)))
    rows = ["holds " + condition.text() for condition in candidates(loop.step)[:most]]
    return with_those_shown(lines, loop, rows)


def with_falling(lines, number):
    loop = loops_of(program_of(lines))[number]
    total = falling(loop.step.condition)
    if loop.step.falls is not None or total is None or len(lines) >= MOST_ROWS:
        return lines
    return with_those_shown(lines, loop, ["falls " + total.text()])


# Puts in the rows behind the loop's holds, and takes out those that aren't shown, again and again: without one of them
# another may not be shown any more.
def with_those_shown(lines, loop, rows):
    place = loop.step.at + 1 + len(loop.step.keeps)
    while len(rows) > 0:
        tried = lines[:place] + [Line(row, True) for row in rows] + lines[place:]
        try:
            missing = places_not_shown(program_of(tried), loop.name, list(range(place, place + len(rows))))
        except TooMany:
            return lines
        if len(missing) == 0:
            return tried
        rows = [row for at, row in enumerate(rows, start=place) if at not in missing]
    return lines


# Those of the places at which one of the helper's debts isn't shown, as a dict.
def places_not_shown(program, name, places):
    found = {}
    for debt in debts(program, name):
        if debt.at in places and debt.at not in found and not is_shown(debt):
            found[debt.at] = True
    return found


def all_new_are_shown(lines):
    program = program_of(lines)
    places = [at for at, line in enumerate(lines) if line.is_new]
    return all([none_is_missing(program, helper.name, places) for helper in program.helpers])


def none_is_missing(program, name, places):
    try:
        return len(places_not_shown(program, name, places)) == 0
    except TooMany:
        # Then nothing was left in this helper.
        return True


# Conditions that may be put in as holds, those left out that are there already.
def candidates(step):
    known = [condition.told() for at, condition in step.keeps]
    found = []
    for condition in likely_ones(step):
        if condition.told() not in known:
            known.append(condition.told())
            found.append(condition)
    return found


def likely_ones(step):
    written = things_written(step.body)
    names = [thing for thing in written if not is_length(thing)]
    bounds = [thing for thing in step.condition.things() if thing not in written]
    found = loosened(step.condition)
    found.extend([from_nought(once(name)) for name in names])
    for name in names:
        found.extend([at_most(once(name), once(thing)) for thing in bounds])
    return found


# A list of one condition, or of none.
def loosened(condition):
    if isinstance(condition, Compare) and condition.sign in LOOSER_SIGNS:
        return [Compare(condition.one, LOOSER_SIGNS[condition.sign], condition.other)]
    return []


# What may fall from round to round, or None.
def falling(condition):
    if not isinstance(condition, Compare) or condition.sign in ("=", "!="):
        return None
    total = condition.other.less(condition.one)
    if condition.sign in (">", ">="):
        total = condition.one.less(condition.other)
    return total if can_be_written(total) else None


# A row with greater numbers couldn't be read again.
def can_be_written(total):
    numbers = [total.number] + [weight for thing, weight in total.terms]
    return len(total.terms) <= MOST_TERMS and all([abs(number) <= GREATEST for number in numbers])
