"""What a debt owes, as plain cases over unknowns: numbers meet one of them just where the debt is broken."""

from holdwright.conditions import cases_of_both
from holdwright.papers import is_never
from holdwright.sums import once


def owed(debt):
    things = {}
    cases = [()]
    count = 0
    for row in debt.ahead:
        if row[0] == "any":
            things[row[1]] = once(unknown(count))
            count = count + 1
        elif row[0] == "let":
            things[row[1]] = row[2].put_in(things)
        else:
            cases = cases_with(cases, row[1].put_in(things))
    return cases_with(cases, debt.condition.opposite().put_in(things))


# What stands for the number of the any-row at this place among them.
def unknown(place):
    return "?" + str(place)


def cases_with(cases, condition):
    # In the cases that are there already nothing is left to leave out, so the condition's own alone are looked
    # through, and it is these that are counted.
    possible = [without_plain(case) for case in condition.cases() if not is_never_met(case)]
    return cases_of_both(cases, possible)


def is_never_met(case):
    return any([is_never(total) for total in case])


def without_plain(case):
    return tuple([total for total in case if len(total.terms) > 0])
