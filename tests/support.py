"""What the tests share: short ways to make Sums, conditions and programs, and to look at them."""

from itertools import product

from holdwright.conditions import Compare, Every, Some, Turned
from holdwright.errors import NoText
from holdwright.programs import Helper
from holdwright.reading import read
from holdwright.steps import Call, Choose, Claim, Divide, Fetch, Let, Make, Put, Repeat
from holdwright.sums import Sum, sum_of

SIGNS = ("<", "<=", "=", "!=", ">=", ">")

OPPOSITES = {"<": ">=", "<=": ">", "=": "!=", "!=": "=", ">=": "<", ">": "<="}


def total(number=0, **weights):
    return sum_of(list(weights.items()), number)


def compare(one, sign, other):
    return Compare(as_sum(one), sign, as_sum(other))


def as_sum(what):
    if isinstance(what, int):
        return total(what)
    if isinstance(what, str):
        return total(**{what: 1})
    return what


def drawn_condition(chance, depth):
    kind = chance.choice(("compare", "not", "and", "or")) if depth > 1 else "compare"
    if kind == "compare":
        one = total(chance.randint(-2, 2), x=chance.randint(-2, 2), y=chance.randint(-1, 1))
        other = total(chance.randint(-2, 2), y=chance.randint(-1, 1), z=chance.randint(-1, 1))
        return Compare(one, chance.choice(SIGNS), other)
    if kind == "not":
        return Turned(drawn_condition(chance, depth - 1))
    parts = [drawn_condition(chance, depth - 1) for _ in range(chance.randint(2, 3))]
    return Every(parts) if kind == "and" else Some(parts)


def told_sum(one):
    return (one.terms, one.number)


def told_cases(cases):
    return [tuple(told_sum(one) for one in case) for case in cases]


def met(case, numbers):
    return all(one.value(numbers) >= 0 for one in case)


def grid(things, low, high):
    for values in product(range(low, high + 1), repeat=len(things)):
        yield dict(zip(things, values))


def check_sum(test, one, terms, number):
    """The Sum has these terms and this number, in the kinds that are told."""
    test.assertIsInstance(one, Sum)
    test.assertIs(type(one.terms), tuple)
    for pair in one.terms:
        test.assertIs(type(pair), tuple)
        test.assertIs(type(pair[0]), str)
        test.assertIs(type(pair[1]), int)
    test.assertIs(type(one.number), int)
    test.assertEqual((one.terms, one.number), (terms, number))


KEPT = ("helper answers needs gives end let div mod put row at if else while holds falls call claim and or not").split()


def refused_at(test, text):
    """The `at` with which the text is refused."""
    with test.assertRaises(NoText) as taken:
        read(text)
    test.assertIs(type(taken.exception.at), int)
    return taken.exception.at


def text_of(*rows):
    return "".join(row + "\n" for row in rows)


def told_step(*rows):
    """What the first step of a helper tells whose steps are written by these rows, the first one being row 1."""
    return read(text_of("helper f", *rows, "end")).helpers[0].steps[0].told()


def built(told):
    """The object that tells this."""
    return BUILDERS[told[0]](told)


def built_sum(told):
    return Sum(told[0], told[1])


def built_pairs(pairs):
    return [[at, built(condition)] for at, condition in pairs]


def built_each(parts):
    return [built(part) for part in parts]


BUILDERS = {
    "compare": lambda t: Compare(built_sum(t[1]), t[2], built_sum(t[3])),
    "not": lambda t: Turned(built(t[1])),
    "and": lambda t: Every(built_each(t[1:])),
    "or": lambda t: Some(built_each(t[1:])),
    "let": lambda t: Let(t[1], t[2], built_sum(t[3])),
    "divide": lambda t: Divide(t[1], t[2], t[3], built_sum(t[4]), built_sum(t[5])),
    "fetch": lambda t: Fetch(t[1], t[2], t[3], built_sum(t[4])),
    "put": lambda t: Put(t[1], t[2], built_sum(t[3]), built_sum(t[4])),
    "make": lambda t: Make(t[1], t[2], built_sum(t[3])),
    "claim": lambda t: Claim(t[1], built(t[2])),
    "choose": lambda t: Choose(t[1], built(t[2]), built_each(t[3]), built_each(t[4])),
    "repeat": lambda t: Repeat(t[1], built(t[2]), built_pairs(t[3]), t[4] and (t[4][0], built_sum(t[4][1])),
                               built_each(t[5])),
    "call": lambda t: Call(t[1], t[2], t[3], [built_sum(one) for one in t[4]]),
    "helper": lambda t: Helper(t[1], t[2], t[3], t[4], built_pairs(t[5]), built_pairs(t[6]), built_each(t[7])),
}


class Drawn:
    """A program drawn by chance: `loose`, its rows with sums in any order, `strict`, those as they are written,
    and `told`, what it tells; all of it made without the package's reader and writer of rows."""

    def __init__(self, chance):
        self.chance = chance
        self.loose = []
        self.strict = []
        self.told = tuple(self.helper() for _ in range(chance.randint(1, 3)))

    def row(self, *parts):
        """Puts a row behind; a part is a text, or a pair of its loose and its strict text."""
        both = [part if isinstance(part, tuple) else (part, part) for part in parts]
        self.loose.append(" ".join(loose for loose, strict in both))
        self.strict.append(" ".join(strict for loose, strict in both))
        return len(self.loose) - 1

    def name(self):
        return self.chance.choice(("x", "y", "z", "abcdefgh", "ends", "nots"))

    def names(self, least, most):
        return tuple(self.name() for _ in range(self.chance.randint(least, most)))

    def thing(self):
        return self.chance.choice(("", "#")) + self.name()

    def sum(self):
        """A pair of its texts, and what it tells."""
        parts, weights, number = [], {}, 0
        for place in range(self.chance.randint(1, 5)):
            minus = self.chance.random() < 0.4
            size = self.chance.choice((0, 1, 2, 3, 10, 40005, 99999999))
            signed = -size if minus else size
            thing = self.thing()
            if self.chance.random() < 0.35:
                term = str(size)
                number += signed
            elif self.chance.random() < 0.5:
                term = f"{size}*{thing}"
                weights[thing] = weights.get(thing, 0) + signed
            else:
                term = thing
                weights[thing] = weights.get(thing, 0) + (-1 if minus else 1)
            ahead = ("-" if minus else "") if place == 0 else (" - " if minus else " + ")
            parts.append(ahead + term)
        told = (tuple((thing, weights[thing]) for thing in sorted(weights) if weights[thing]), number)
        return ("".join(parts), sum_of(weights.items(), number).text()), told

    def condition(self, depth=3):
        kind = self.chance.choice(("compare", "compare", "not", "and", "or")) if depth > 1 else "compare"
        if kind == "compare":
            (one, one_told), sign, (other, other_told) = self.sum(), self.chance.choice(SIGNS), self.sum()
            both = tuple(f"{one[k]} {sign} {other[k]}" for k in (0, 1))
            return both, ("compare", one_told, sign, other_told)
        if kind == "not":
            inner, told = self.condition(depth - 1)
            return tuple(f"not ({inner[k]})" for k in (0, 1)), ("not", told)
        parts = [self.condition(depth - 1) for _ in range(self.chance.randint(2, 3))]
        texts = [tuple(f"({text})" if told[0] in ("and", "or") else text for text in both) for both, told in parts]
        return (tuple(f" {kind} ".join(both[k] for both in texts) for k in (0, 1)),
                (kind,) + tuple(told for both, told in parts))

    def writings(self, word, most):
        found = []
        for _ in range(self.chance.randint(0, most)):
            both, told = self.condition()
            found.append((self.row(word, both), told))
        return tuple(found)

    def helper(self):
        name = self.name()
        params = tuple(self.thing() for _ in range(self.chance.randint(0, 4)))
        at = self.row("helper", name, *params)
        answers = self.names(0, 3)
        if answers:
            self.row("answers", *answers)
        told = ("helper", at, name, params, answers, self.writings("needs", 2), self.writings("gives", 2),
                self.steps(0, 4, 5))
        self.row("end")
        return told

    def steps(self, least, most, depth):
        return tuple(self.step(depth) for _ in range(self.chance.randint(least, most)))

    def step(self, depth):
        kinds = (self.let, self.divide, self.fetch, self.put, self.make, self.claim, self.call)
        if depth > 0 and self.chance.random() < 0.5:
            return self.chance.choice((self.choose, self.repeat))(depth - 1)
        return self.chance.choice(kinds)()

    def let(self):
        name, (both, told) = self.name(), self.sum()
        return ("let", self.row("let", name, "=", both), name, told)

    def divide(self):
        name, word, (one, one_told), (by, by_told) = self.name(), self.chance.choice(("div", "mod")), *self.two_sums()
        return ("divide", self.row("let", name, "=", one, word, by), name, word, one_told, by_told)

    def two_sums(self):
        return self.sum(), self.sum()

    def fetch(self):
        name, row, (both, told) = self.name(), self.name(), self.sum()
        return ("fetch", self.row("let", name, "=", row, "at", both), name, row, told)

    def put(self):
        row, (place, place_told), (both, told) = self.name(), *self.two_sums()
        return ("put", self.row("put", row, "at", place, "=", both), row, place_told, told)

    def make(self):
        row, (both, told) = self.name(), self.sum()
        return ("make", self.row("row", row, "=", both), row, told)

    def claim(self):
        both, told = self.condition()
        return ("claim", self.row("claim", both), told)

    def call(self):
        names, helper = self.names(0, 3), self.name()
        given = [self.sum() for _ in range(self.chance.randint(0, 4))]
        parts = ["call", *names, *(["="] if names else []), helper]
        if given:
            parts.append(tuple(", ".join(both[k] for both, told in given) for k in (0, 1)))
        return ("call", self.row(*parts), names, helper, tuple(told for both, told in given))

    def choose(self, depth):
        both, told = self.condition()
        at = self.row("if", both)
        then, other = self.steps(0, 2, depth), ()
        if self.chance.random() < 0.5:
            self.row("else")
            other = self.steps(1, 2, depth)
        self.row("end")
        return ("choose", at, told, then, other)

    def repeat(self, depth):
        both, told = self.condition()
        at = self.row("while", both)
        keeps, falls = self.writings("holds", 2), None
        if self.chance.random() < 0.5:
            total_texts, total_told = self.sum()
            falls = (self.row("falls", total_texts), total_told)
        body = self.steps(0, 2, depth)
        self.row("end")
        return ("repeat", at, told, keeps, falls, body)
