"""Looking at debts: each is shown by papers, or denied by numbers, or left open."""

from holdwright.debts import debts
from holdwright.errors import TooHard, TooMany
from holdwright.papers import is_several, refutes
from holdwright.plain import owed, unknown
from holdwright.seeking import sought


def looked(program, name):
    return [(debt.kind, debt.at) + look_at(debt) for debt in debts(program, name)]


def shows(debt, papers):
    try:
        cases = owed(debt)
    except TooMany:
        return False
    if not is_several(papers) or len(papers) != len(cases):
        return False
    return all([refutes(case, paper) for case, paper in zip(cases, papers)])


def let_by(program):
    try:
        owing = all_debts(program)
    except TooMany:
        return False
    for debt in owing:
        if not is_shown(debt):
            return False
    return True


def all_debts(program):
    found = []
    for helper in program.helpers:
        found.extend(debts(program, helper.name))
    return found


def is_shown(debt):
    return look_at(debt)[0] == "shown"


# A pair of a word and what goes with it: ("shown", papers), ("denied", numbers) or ("open", None).
def look_at(debt):
    try:
        return answer_for(debt, owed(debt))
    except TooMany:
        return ("open", None)


def answer_for(debt, cases):
    papers = []
    for case in cases:
        # Where one case is too hard another may still be met.
        word, found = sought_or_open(case)
        if word == "some":
            return ("denied", numbers_along(debt.ahead, found))
        papers.append(found)
    if any([paper is None for paper in papers]):
        return ("open", None)
    return ("shown", tuple(papers))


def sought_or_open(case):
    try:
        return sought(case)
    except TooHard:
        return ("open", None)


# A number for each any-row; those whose unknown isn't in the case may have any.
def numbers_along(ahead, numbers):
    count = len([row for row in ahead if row[0] == "any"])
    return tuple([numbers.get(unknown(place), 0) for place in range(count)])
