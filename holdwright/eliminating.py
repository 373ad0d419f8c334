"""Things taken out of Sums one by one, until it is seen that no whole numbers meet them all, or which ones do."""

from holdwright.errors import TooHard
from holdwright.papers import divided, line_of, other_side, turned_terms
from holdwright.sums import Sum, once

MOST_SUMS = 80


# A Sum that is to be 0 or more, in what the things stand for by now, and the number of its line in the paper.
class Row:
    def __init__(self, total, line):
        self.total = total
        self.line = line
        self.weights = dict(total.terms)


# A thing that was taken out: the rows that bounded it from below and from above, and all rows that there were then.
class Taken:
    def __init__(self, thing, below, above, rows):
        self.thing = thing
        self.below = below
        self.above = above
        self.rows = rows


# A thing that stands for another number from here on: what it stood for before is the total of what things stand for
# now.
class Renamed:
    def __init__(self, thing, total):
        self.thing = thing
        self.total = total


# The Sums that are to be met together, and what has become of them by now.
class Part:
    def __init__(self, sums):
        self.sums = tuple(sums)
        # The lines of a paper, many of which lead nowhere.
        self.made = []
        # By their terms, so that of Sums with like terms the least one alone is there: it speaks for the others.
        self.rows = {}
        self.passed = []
        # The number of a line that no numbers meet.
        self.clash = None
        for line, total in enumerate(self.sums):
            self.take_in(total, line)

    def write(self, line):
        self.made.append(line)
        return len(self.sums) + len(self.made) - 1

    def take_in(self, total, line):
        if len(total.terms) == 0:
            if total.number < 0:
                self.clash = line
            return
        divisor = common_divisor([weight for thing, weight in total.terms])
        if divisor > 1:
            total = divided(total, divisor)
            line = self.write(("cut", line, divisor))
        known = self.rows.get(total.terms)
        if known is not None and known.total.number <= total.number:
            return
        self.rows[total.terms] = Row(total, line)
        refuse_too_hard(len(self.rows))
        facing = self.facing(total)
        if facing is not None and facing.total.number + total.number < 0:
            self.clash = self.write(("add", ((1, line), (1, facing.line))))

    # The row that bounds from above what this Sum bounds from below, or None.
    def facing(self, total):
        return self.rows.get(turned_terms(total.terms))


# One of three: ("none", paper), which refutes these Sums; ("some", numbers), which meet them; or ("split", Sum), where
# neither was found, but may be in the two parts that a split at this Sum makes.
def eliminated(sums):
    refuse_too_hard(len(sums))
    part = Part(sums)
    while part.clash is None and len(part.rows) > 0:
        go_on(part)
    if part.clash is not None:
        return ("none", paper_of(part, part.clash))
    return put_back(part)


def refuse_too_hard(count):
    if count > MOST_SUMS:
        raise TooHard(f"more than {MOST_SUMS} sums at once")


def go_on(part):
    level = best_level(part)
    if level is None:
        sides = sides_of_things(part)
        count = len(part.rows)
        thing = min(sorted(sides), key=lambda each: cost(count, each, sides[each]))
        take_out(part, thing, sides[thing])
    else:
        use_level(part, level)


# Of the rows whose Sum can be neither more nor less than 0 the one that is soonest dealt with, or None.
def best_level(part):
    found = [row for row in part.rows.values() if is_level(part, row)]
    return min(found, key=lambda row: (least_weight(row), len(row.weights)), default=None)


def is_level(part, row):
    facing = part.facing(row.total)
    return facing is not None and facing.total.number + row.total.number == 0


def least_weight(row):
    return min([abs(weight) for thing, weight in row.total.terms])


# A thing whose weight is 1 or -1 can be put in everywhere. Else one is renamed so that the others' weights become what
# is left of them when they are divided by its own: so the least weight falls until it is 1.
def use_level(part, level):
    least = least_weight(level)
    thing = [thing for thing, weight in level.total.terms if abs(weight) == least][0]
    if least == 1:
        put_in_everywhere(part, level, thing)
    else:
        rename(part, level, thing)


def put_in_everywhere(part, level, thing):
    lower = level
    upper = part.facing(level.total)
    if level.weights[thing] < 0:
        lower, upper = upper, lower
    bounded = [row for row in part.rows.values() if thing in row.weights]
    part.passed.append(Taken(thing, [lower], [upper], part.rows))
    drop_rows(part, thing)
    for row in bounded:
        join(part, thing, row, upper if row.weights[thing] > 0 else lower)


def rename(part, level, thing):
    own = level.weights[thing]
    stands_for = once(thing)
    for other, weight in level.total.terms:
        if other != thing:
            stands_for = stands_for.less(once(other).times(nearest_quotient(weight, own)))
    part.passed.append(Renamed(thing, stands_for))
    keep_rows(part, [Row(row.total.put_in({thing: stands_for}), row.line) for row in part.rows.values()])


def nearest_quotient(one, other):
    return (2 * one + other) // (2 * other)


def drop_rows(part, thing):
    keep_rows(part, [row for row in part.rows.values() if thing not in row.weights])


def keep_rows(part, rows):
    part.rows = {}
    for row in rows:
        part.rows[row.total.terms] = row


# From each thing to two lists, the rows that bound it from below and those from above.
def sides_of_things(part):
    sides = {}
    for row in part.rows.values():
        for thing, weight in row.total.terms:
            below, above = sides.setdefault(thing, ([], []))
            if weight > 0:
                below.append(row)
            else:
                above.append(row)
    return sides


# The less, the sooner a thing is taken out. Where all its weights on one side are 1 nothing is lost: whole numbers that
# meet what is left leave it a whole number. Else the greater they are, the more splits may be due.
def cost(count, thing, sides):
    below, above = sides
    grown = len(below) * len(above) - len(below) - len(above)
    lost = 1
    if len(below) > 0 and len(above) > 0:
        lost = min(max([row.weights[thing] for row in below]), max([-row.weights[thing] for row in above]))
    too_many = 1 if count + grown > MOST_SUMS else 0
    return (too_many, lost, grown)


def take_out(part, thing, sides):
    below, above = sides
    part.passed.append(Taken(thing, below, above, part.rows))
    drop_rows(part, thing)
    for lower in below:
        for upper in above:
            if part.clash is None:
                join(part, thing, lower, upper)


# Takes in the two rows added up, each as often as makes the thing fall out.
def join(part, thing, one, other):
    divisor = common_divisor([one.weights[thing], other.weights[thing]])
    often = abs(other.weights[thing]) // divisor
    other_often = abs(one.weights[thing]) // divisor
    total = one.total.times(often).plus(other.total.times(other_often))
    part.take_in(total, part.write(("add", ((often, one.line), (other_often, other.line)))))


# Gives the things numbers, those taken out last first. Things that fell out with others may have any.
def put_back(part):
    numbers = numbers_at_first(part.sums)
    for step in reversed(part.passed):
        if isinstance(step, Renamed):
            numbers[step.thing] = step.total.value(numbers)
        else:
            low = max([bound(row, step.thing, numbers) for row in step.below], default=None)
            high = min([bound(row, step.thing, numbers) for row in step.above], default=None)
            if low is not None and high is not None and low > high:
                return ("split", sum_to_split(part, step, numbers))
            numbers[step.thing] = nearest_to_nought(low, high)
    return ("some", numbers)


def numbers_at_first(sums):
    things = []
    for total in sums:
        things.extend(total.things())
    numbers = {}
    for thing in sorted(set(things)):
        numbers[thing] = 0
    return numbers


# The least, or the greatest, whole number that the thing may have by this row; its own number is 0 by now.
def bound(row, thing, numbers):
    weight = row.weights[thing]
    rest = row.total.value(numbers)
    return -(rest // weight) if weight > 0 else rest // -weight


def nearest_to_nought(low, high):
    if low is not None and low > 0:
        return low
    if high is not None and high < 0:
        return high
    return 0


# Two rows leave the thing no whole number here. They leave it one wherever they are great enough, added up so that it
# falls out: so this is what is split at first. Where they aren't, the thing is close to its bounds, which are tried one
# by one: a row is 0, or it is more.
def sum_to_split(part, step, numbers):
    thing = step.thing
    low = max(step.below, key=lambda row: bound(row, thing, numbers))
    high = min(step.above, key=lambda row: bound(row, thing, numbers))
    weight = low.weights[thing]
    other_weight = -high.weights[thing]
    enough = Sum((), (weight - 1) * (other_weight - 1))
    both = low.total.times(other_weight).plus(high.total.times(weight))
    if is_ruled_out(step.rows, both.less(enough)):
        return sum_of_line(part, low.line if weight <= other_weight else high.line).less(Sum((), 1))
    low_total = sum_of_line(part, low.line).times(other_weight)
    return low_total.plus(sum_of_line(part, high.line).times(weight)).less(enough)


# Whether one of the rows tells by itself that the Sum, which isn't met at some numbers, is met nowhere.
def is_ruled_out(rows, total):
    if len(total.terms) == 0:
        return True
    other = other_side(total)
    other = divided(other, common_divisor([weight for thing, weight in other.terms]))
    known = rows.get(other.terms)
    return known is not None and known.total.number <= other.number


# The lines that lead to this one, numbered anew, it being the last.
def paper_of(part, line):
    first = len(part.sums)
    if line < first:
        return (("add", ((1, line),)),)
    needed = {line: True}
    for place in range(line, first - 1, -1):
        if place in needed:
            for ahead in lines_used(part.made[place - first]):
                needed[ahead] = True
    anew = {}
    paper = []
    for place in sorted(needed):
        anew[place] = place
        if place >= first:
            anew[place] = first + len(paper)
            paper.append(renumbered(part.made[place - first], anew))
    return tuple(paper)


def lines_used(line):
    return [line[1]] if line[0] == "cut" else [place for weight, place in line[1]]


def renumbered(line, anew):
    if line[0] == "cut":
        return ("cut", anew[line[1]], line[2])
    return ("add", tuple([(weight, anew[place]) for weight, place in line[1]]))


# The Sum of a line in the things as they are handed in, whatever they have been renamed to.
def sum_of_line(part, line):
    lines = list(part.sums)
    for each in paper_of(part, line):
        lines.append(line_of(lines, each))
    return lines[-1]


def common_divisor(numbers):
    found = 0
    for number in numbers:
        rest = abs(number)
        while rest != 0:
            found, rest = rest, found % rest
    return found
