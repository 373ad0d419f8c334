"""What the tests share: short ways to make Sums and conditions, and to look at Sums."""

from itertools import product

from holdwright.conditions import Compare, Every, Some, Turned
from holdwright.sums import Sum, sum_of

SIGNS = ("<", "<=", "=", "!=", ">=", ">")

OPPOSITES = {"<": ">=", "<=": ">", "=": "!=", "!=": "=", ">=": "<", ">": "<="}


def total(number=0, **weights):
    return sum_of(list(weights.items()), number)


def compare(one, sign, other):
    return Compare(as_sum(one), sign, as_sum(other))


def as_sum(what):
    if isinstance(what, int):
        return total(what)
    if isinstance(what, str):
        return total(**{what: 1})
    return what


def drawn_condition(chance, depth):
    kind = chance.choice(("compare", "not", "and", "or")) if depth > 1 else "compare"
    if kind == "compare":
        one = total(chance.randint(-2, 2), x=chance.randint(-2, 2), y=chance.randint(-1, 1))
        other = total(chance.randint(-2, 2), y=chance.randint(-1, 1), z=chance.randint(-1, 1))
        return Compare(one, chance.choice(SIGNS), other)
    if kind == "not":
        return Turned(drawn_condition(chance, depth - 1))
    parts = [drawn_condition(chance, depth - 1) for _ in range(chance.randint(2, 3))]
    return Every(parts) if kind == "and" else Some(parts)


def told_sum(one):
    return (one.terms, one.number)


def told_cases(cases):
    return [tuple(told_sum(one) for one in case) for case in cases]


def met(case, numbers):
    return all(one.value(numbers) >= 0 for one in case)


def grid(things, low, high):
    for values in product(range(low, high + 1), repeat=len(things)):
        yield dict(zip(things, values))


def check_sum(test, one, terms, number):
    """The Sum has these terms and this number, in the kinds that are told."""
    test.assertIsInstance(one, Sum)
    test.assertIs(type(one.terms), tuple)
    for pair in one.terms:
        test.assertIs(type(pair), tuple)
        test.assertIs(type(pair[0]), str)
        test.assertIs(type(pair[1]), int)
    test.assertIs(type(one.number), int)
    test.assertEqual((one.terms, one.number), (terms, number))
