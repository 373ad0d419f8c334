"""Conditions on things' numbers: comparisons, turned ones, every one of some, some one of some."""

from holdwright.errors import TooMany
from holdwright.sums import Sum

OPPOSITE_SIGNS = {"<": ">=", ">=": "<", "<=": ">", ">": "<=", "=": "!=", "!=": "="}

MOST_CASES = 64


# What the four kinds have alike. Each of them has `all_sums`, the list of the Sums that stand in it.
class Condition:
    def things(self):
        found = []
        for total in self.all_sums():
            found.extend(total.things())
        return tuple(sorted(set(found)))


class Compare(Condition):
    def __init__(self, one, sign, other):
        self.one = one
        self.sign = sign
        self.other = other

    def all_sums(self):
        return [self.one, self.other]

    def holds(self, numbers):
        return compares(self.one.value(numbers), self.sign, self.other.value(numbers))

    def put_in(self, sums):
        return Compare(self.one.put_in(sums), self.sign, self.other.put_in(sums))

    def told(self):
        return ("compare", self.one.told(), self.sign, self.other.told())

    def opposite(self):
        return Compare(self.one, OPPOSITE_SIGNS[self.sign], self.other)

    def cases(self):
        rise = self.other.less(self.one)
        drop = self.one.less(self.other)
        if self.sign == "<":
            return [(less_one(rise),)]
        if self.sign == "<=":
            return [(rise,)]
        if self.sign == ">":
            return [(less_one(drop),)]
        if self.sign == ">=":
            return [(drop,)]
        if self.sign == "=":
            return [(rise, drop)]
        return [(less_one(rise),), (less_one(drop),)]

    def text(self):
        one = self.one.text()
        sign = self.sign
        other = self.other.text()
        return f"{one} {sign} {other}"


class Turned(Condition):
    def __init__(self, condition):
        self.condition = condition

    def all_sums(self):
        return self.condition.all_sums()

    def holds(self, numbers):
        return not self.condition.holds(numbers)

    def put_in(self, sums):
        return Turned(self.condition.put_in(sums))

    def told(self):
        return ("not", self.condition.told())

    def opposite(self):
        return self.condition

    def cases(self):
        return self.condition.opposite().cases()

    def text(self):
        inner = self.condition.text()
        return f"not ({inner})"


# What Every and Some have alike.
class Several(Condition):
    def __init__(self, conditions):
        self.conditions = tuple(conditions)

    def all_sums(self):
        found = []
        for condition in self.conditions:
            found.extend(condition.all_sums())
        return found


class Every(Several):
    def holds(self, numbers):
        return all([condition.holds(numbers) for condition in self.conditions])

    def put_in(self, sums):
        return Every([condition.put_in(sums) for condition in self.conditions])

    def told(self):
        return ("and",) + tuple([condition.told() for condition in self.conditions])

    def opposite(self):
        return Some([condition.opposite() for condition in self.conditions])

    def cases(self):
        found = [()]
        for condition in self.conditions:
            found = cases_of_both(found, condition.cases())
        return found

    def text(self):
        return " and ".join([text_within(condition) for condition in self.conditions])


class Some(Several):
    def holds(self, numbers):
        return any([condition.holds(numbers) for condition in self.conditions])

    def put_in(self, sums):
        return Some([condition.put_in(sums) for condition in self.conditions])

    def told(self):
        return ("or",) + tuple([condition.told() for condition in self.conditions])

    def opposite(self):
        return Every([condition.opposite() for condition in self.conditions])

    def cases(self):
        found = []
        for condition in self.conditions:
            found.extend(condition.cases())
            refuse_too_many(len(found))
        return found

    def text(self):
        return " or ".join([text_within(condition) for condition in self.conditions])


def compares(one, sign, other):
    if sign == "<":
        return one < other
    if sign == "<=":
        return one <= other
    if sign == "=":
        return one == other
    if sign == "!=":
        return one != other
    if sign == ">=":
        return one >= other
    return one > other


def less_one(total):
    return total.less(Sum((), 1))


def cases_of_both(ones, others):
    # Every condition has a case, so what is too many here can't become fewer further on.
    refuse_too_many(len(ones) * len(others))
    found = []
    for one in ones:
        found.extend([one + other for other in others])
    return found


def refuse_too_many(count):
    if count > MOST_CASES:
        raise TooMany(f"more than {MOST_CASES} cases")


def text_within(condition):
    written = condition.text()
    if isinstance(condition, Several):
        return f"({written})"
    return written
