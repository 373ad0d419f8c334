"""Papers, which show that no whole numbers meet a case, and the checker of them."""

from holdwright.sums import Sum, is_number, sum_of

MOST_SPLITS = 20


def refutes(case, paper):
    if not is_several(case) or not all([is_sum(total) for total in case]):
        return False
    return ends_well(list(case), paper, MOST_SPLITS)


# The Sum of an add or a cut of right form.
def line_of(lines, line):
    if line[0] == "cut":
        return divided(lines[line[1]], line[2])
    pairs = []
    number = 0
    for often, place in line[1]:
        pairs.extend([(thing, often * weight) for thing, weight in lines[place].terms])
        number = number + often * lines[place].number
    return sum_of(pairs, number)


# Rounded down, the number loses nothing: at whole numbers the terms together are a multiple of the divisor.
def divided(total, divisor):
    return Sum([(thing, weight // divisor) for thing, weight in total.terms], total.number // divisor)


# Whole numbers leave nothing between 0 and -1, so each meets the Sum or this one.
def other_side(total):
    return Sum(turned_terms(total.terms), -total.number - 1)


def turned_terms(terms):
    return tuple([(thing, -weight) for thing, weight in terms])


# Whether the paper is right all through and ends well, behind these lines, a list to which its own are put; so many
# splits may stand within one another from here on.
def ends_well(lines, paper, splits):
    if not is_several(paper):
        return False
    for place, line in enumerate(paper):
        if is_split(line):
            return place == len(paper) - 1 and splits > 0 and both_end_well(lines, line, splits - 1)
        if not is_right(lines, line):
            return False
        lines.append(line_of(lines, line))
    return len(lines) > 0 and is_never(lines[-1])


def both_end_well(lines, line, splits):
    if not ends_well(lines + [line[1]], line[2], splits):
        return False
    return ends_well(lines + [other_side(line[1])], line[3], splits)


def is_never(total):
    return len(total.terms) == 0 and total.number < 0


def is_split(line):
    return is_several(line) and len(line) == 4 and line[0] == "split" and is_sum(line[1])


def is_right(lines, line):
    if not is_several(line):
        return False
    if len(line) == 2 and line[0] == "add":
        return is_several(line[1]) and len(line[1]) > 0 and all([is_weighed(lines, pair) for pair in line[1]])
    if len(line) == 3 and line[0] == "cut":
        return is_ahead(lines, line[1]) and is_from_one(line[2]) and can_be_divided(lines[line[1]], line[2])
    return False


def is_weighed(lines, pair):
    return is_several(pair) and len(pair) == 2 and is_from_one(pair[0]) and is_ahead(lines, pair[1])


def is_from_one(what):
    return is_number(what) and what >= 1


def is_ahead(lines, what):
    return is_number(what) and 0 <= what < len(lines)


def can_be_divided(total, divisor):
    return all([weight % divisor == 0 for thing, weight in total.terms])


def is_several(what):
    return isinstance(what, (list, tuple))


# A Sum may be made by hand, so its fields are looked at as well.
def is_sum(what):
    if not isinstance(what, Sum) or not is_number(what.number):
        return False
    if not all([is_term(pair) for pair in what.terms]):
        return False
    things = [pair[0] for pair in what.terms]
    return things == sorted(set(things))


def is_term(pair):
    return len(pair) == 2 and isinstance(pair[0], str) and is_number(pair[1]) and pair[1] != 0
