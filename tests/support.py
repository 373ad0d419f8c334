"""What the tests share: short ways to make Sums, conditions and programs, and to look at them."""

from itertools import product

from holdwright.conditions import Compare, Every, Some, Turned
from holdwright.errors import Fault, NoText
from holdwright.programs import Helper
from holdwright.reading import read
from holdwright.runs import run
from holdwright.steps import Call, Choose, Claim, Divide, Fetch, Let, Make, Put, Repeat
from holdwright.sums import Sum, sum_of

SIGNS = ("<", "<=", "=", "!=", ">=", ">")

OPPOSITES = {"<": ">=", "<=": ">", "=": "!=", "!=": "=", ">=": "<", ">": "<="}


def total(number=0, **weights):
    return sum_of(list(weights.items()), number)


def compare(one, sign, other):
    return Compare(as_sum(one), sign, as_sum(other))


def as_sum(what):
    if isinstance(what, int):
        return total(what)
    if isinstance(what, str):
        return total(**{what: 1})
    return what


def anything(thing):
    return ("any", thing)


def let(thing, what):
    return ("let", thing, as_sum(what))


def hold(one, sign, other):
    return ("hold", compare(one, sign, other))


def drawn_condition(chance, depth):
    kind = chance.choice(("compare", "not", "and", "or")) if depth > 1 else "compare"
    if kind == "compare":
        one = total(chance.randint(-2, 2), x=chance.randint(-2, 2), y=chance.randint(-1, 1))
        other = total(chance.randint(-2, 2), y=chance.randint(-1, 1), z=chance.randint(-1, 1))
        return Compare(one, chance.choice(SIGNS), other)
    if kind == "not":
        return Turned(drawn_condition(chance, depth - 1))
    parts = [drawn_condition(chance, depth - 1) for _ in range(chance.randint(2, 3))]
    return Every(parts) if kind == "and" else Some(parts)


def told_sum(one):
    return (one.terms, one.number)


def told_cases(cases):
    return [tuple(told_sum(one) for one in case) for case in cases]


def met(case, numbers):
    return all(one.value(numbers) >= 0 for one in case)


def grid(things, low, high):
    for values in product(range(low, high + 1), repeat=len(things)):
        yield dict(zip(things, values))


def check_sum(test, one, terms, number):
    """The Sum has these terms and this number, in the kinds that are told."""
    test.assertIsInstance(one, Sum)
    test.assertIs(type(one.terms), tuple)
    for pair in one.terms:
        test.assertIs(type(pair), tuple)
        test.assertIs(type(pair[0]), str)
        test.assertIs(type(pair[1]), int)
    test.assertIs(type(one.number), int)
    test.assertEqual((one.terms, one.number), (terms, number))


KEPT = ("helper answers needs gives end let div mod put row at if else while holds falls call claim and or not").split()


def refused_at(test, text):
    """The `at` with which the text is refused."""
    with test.assertRaises(NoText) as taken:
        read(text)
    test.assertIs(type(taken.exception.at), int)
    return taken.exception.at


def text_of(*rows):
    return "".join(row + "\n" for row in rows)


def told_step(*rows):
    """What the first step of a helper tells whose steps are written by these rows, the first one being row 1."""
    return read(text_of("helper f", *rows, "end")).helpers[0].steps[0].told()


def built(told):
    """The object that tells this."""
    return BUILDERS[told[0]](told)


def built_sum(told):
    return Sum(told[0], told[1])


def built_pairs(pairs):
    return [[at, built(condition)] for at, condition in pairs]


def built_each(parts):
    return [built(part) for part in parts]


BUILDERS = {
    "compare": lambda t: Compare(built_sum(t[1]), t[2], built_sum(t[3])),
    "not": lambda t: Turned(built(t[1])),
    "and": lambda t: Every(built_each(t[1:])),
    "or": lambda t: Some(built_each(t[1:])),
    "let": lambda t: Let(t[1], t[2], built_sum(t[3])),
    "divide": lambda t: Divide(t[1], t[2], t[3], built_sum(t[4]), built_sum(t[5])),
    "fetch": lambda t: Fetch(t[1], t[2], t[3], built_sum(t[4])),
    "put": lambda t: Put(t[1], t[2], built_sum(t[3]), built_sum(t[4])),
    "make": lambda t: Make(t[1], t[2], built_sum(t[3])),
    "claim": lambda t: Claim(t[1], built(t[2])),
    "choose": lambda t: Choose(t[1], built(t[2]), built_each(t[3]), built_each(t[4])),
    "repeat": lambda t: Repeat(t[1], built(t[2]), built_pairs(t[3]), t[4] and (t[4][0], built_sum(t[4][1])),
                               built_each(t[5])),
    "call": lambda t: Call(t[1], t[2], t[3], [built_sum(one) for one in t[4]]),
    "helper": lambda t: Helper(t[1], t[2], t[3], t[4], built_pairs(t[5]), built_pairs(t[6]), built_each(t[7])),
}


class Drawn:
    """A program drawn by chance: `loose`, its rows with sums in any order, `strict`, those as they are written,
    and `told`, what it tells; all of it made without the package's reader and writer of rows."""

    def __init__(self, chance):
        self.chance = chance
        self.loose = []
        self.strict = []
        self.told = tuple(self.helper() for _ in range(chance.randint(1, 3)))

    def row(self, *parts):
        """Puts a row behind; a part is a text, or a pair of its loose and its strict text."""
        both = [part if isinstance(part, tuple) else (part, part) for part in parts]
        self.loose.append(" ".join(loose for loose, strict in both))
        self.strict.append(" ".join(strict for loose, strict in both))
        return len(self.loose) - 1

    def name(self):
        return self.chance.choice(("x", "y", "z", "abcdefgh", "ends", "nots"))

    def names(self, least, most):
        return tuple(self.name() for _ in range(self.chance.randint(least, most)))

    def thing(self):
        return self.chance.choice(("", "#")) + self.name()

    def sum(self):
        """A pair of its texts, and what it tells."""
        parts, weights, number = [], {}, 0
        for place in range(self.chance.randint(1, 5)):
            minus = self.chance.random() < 0.4
            size = self.chance.choice((0, 1, 2, 3, 10, 40005, 99999999))
            signed = -size if minus else size
            thing = self.thing()
            if self.chance.random() < 0.35:
                term = str(size)
                number += signed
            elif self.chance.random() < 0.5:
                term = f"{size}*{thing}"
                weights[thing] = weights.get(thing, 0) + signed
            else:
                term = thing
                weights[thing] = weights.get(thing, 0) + (-1 if minus else 1)
            ahead = ("-" if minus else "") if place == 0 else (" - " if minus else " + ")
            parts.append(ahead + term)
        told = (tuple((thing, weights[thing]) for thing in sorted(weights) if weights[thing]), number)
        return ("".join(parts), sum_of(weights.items(), number).text()), told

    def condition(self, depth=3):
        kind = self.chance.choice(("compare", "compare", "not", "and", "or")) if depth > 1 else "compare"
        if kind == "compare":
            (one, one_told), sign, (other, other_told) = self.sum(), self.chance.choice(SIGNS), self.sum()
            both = tuple(f"{one[k]} {sign} {other[k]}" for k in (0, 1))
            return both, ("compare", one_told, sign, other_told)
        if kind == "not":
            inner, told = self.condition(depth - 1)
            return tuple(f"not ({inner[k]})" for k in (0, 1)), ("not", told)
        parts = [self.condition(depth - 1) for _ in range(self.chance.randint(2, 3))]
        texts = [tuple(f"({text})" if told[0] in ("and", "or") else text for text in both) for both, told in parts]
        return (tuple(f" {kind} ".join(both[k] for both in texts) for k in (0, 1)),
                (kind,) + tuple(told for both, told in parts))

    def writings(self, word, most):
        found = []
        for _ in range(self.chance.randint(0, most)):
            both, told = self.condition()
            found.append((self.row(word, both), told))
        return tuple(found)

    def helper(self):
        name = self.name()
        params = tuple(self.thing() for _ in range(self.chance.randint(0, 4)))
        at = self.row("helper", name, *params)
        answers = self.names(0, 3)
        if answers:
            self.row("answers", *answers)
        told = ("helper", at, name, params, answers, self.writings("needs", 2), self.writings("gives", 2),
                self.steps(0, 4, 5))
        self.row("end")
        return told

    def steps(self, least, most, depth):
        return tuple(self.step(depth) for _ in range(self.chance.randint(least, most)))

    def step(self, depth):
        kinds = (self.let, self.divide, self.fetch, self.put, self.make, self.claim, self.call)
        if depth > 0 and self.chance.random() < 0.5:
            return self.chance.choice((self.choose, self.repeat))(depth - 1)
        return self.chance.choice(kinds)()

    def let(self):
        name, (both, told) = self.name(), self.sum()
        return ("let", self.row("let", name, "=", both), name, told)

    def divide(self):
        name, word, (one, one_told), (by, by_told) = self.name(), self.chance.choice(("div", "mod")), *self.two_sums()
        return ("divide", self.row("let", name, "=", one, word, by), name, word, one_told, by_told)

    def two_sums(self):
        return self.sum(), self.sum()

    def fetch(self):
        name, row, (both, told) = self.name(), self.name(), self.sum()
        return ("fetch", self.row("let", name, "=", row, "at", both), name, row, told)

    def put(self):
        row, (place, place_told), (both, told) = self.name(), *self.two_sums()
        return ("put", self.row("put", row, "at", place, "=", both), row, place_told, told)

    def make(self):
        row, (both, told) = self.name(), self.sum()
        return ("make", self.row("row", row, "=", both), row, told)

    def claim(self):
        both, told = self.condition()
        return ("claim", self.row("claim", both), told)

    def call(self):
        names, helper = self.names(0, 3), self.name()
        given = [self.sum() for _ in range(self.chance.randint(0, 4))]
        parts = ["call", *names, *(["="] if names else []), helper]
        if given:
            parts.append(tuple(", ".join(both[k] for both, told in given) for k in (0, 1)))
        return ("call", self.row(*parts), names, helper, tuple(told for both, told in given))

    def choose(self, depth):
        both, told = self.condition()
        at = self.row("if", both)
        then, other = self.steps(0, 2, depth), ()
        if self.chance.random() < 0.5:
            self.row("else")
            other = self.steps(1, 2, depth)
        self.row("end")
        return ("choose", at, told, then, other)

    def repeat(self, depth):
        both, told = self.condition()
        at = self.row("while", both)
        keeps, falls = self.writings("holds", 2), None
        if self.chance.random() < 0.5:
            total_texts, total_told = self.sum()
            falls = (self.row("falls", total_texts), total_told)
        body = self.steps(0, 2, depth)
        self.row("end")
        return ("repeat", at, told, keeps, falls, body)


def program_of(*rows):
    return read(text_of(*rows))


def outcome(program, name, given, *most):
    """What the run tells, or ("fault", kind, at)."""
    try:
        return run(program, name, given, *most)
    except Fault as fault:
        return ("fault", fault.kind, fault.at)


class DrawnSense:
    """The rows of a program drawn by chance that makes sense, and `heads`, (name, params, answers) of its helpers.
    Rows are made of few numbers, so a run makes no long ones."""

    def __init__(self, chance):
        self.chance = chance
        self.rows = []
        self.heads = []
        for name in ("f", "g", "main")[:chance.randint(1, 3)]:
            self.helper(name)

    def some(self, parts, most):
        return self.chance.sample(parts, self.chance.randint(0, min(most, len(parts))))

    def helper(self, name):
        params = self.some(["n", "m", "#a", "#b"], 3)
        self.answers = self.some(["x", "y"], 2)
        self.numbers = ["x", "y", "i"] + [param for param in params if param[0] != "#"]
        self.own_rows = ["c"]
        self.row_names = ["c"] + [param[1:] for param in params if param[0] == "#"]
        self.rows.append(" ".join(["helper", name, *params]))
        if self.answers:
            self.rows.append(" ".join(["answers", *self.answers]))
        self.writings("needs", params, 1)
        self.writings("gives", params + self.answers, 2)
        self.steps(3, 6, 3)
        self.rows.append("end")
        self.heads.append((name, tuple(params), tuple(self.answers)))

    def writings(self, word, things, most):
        for _ in range(self.chance.randint(0, most)):
            self.rows.append(word + " " + self.condition(things))

    def things(self):
        return self.numbers + ["#" + name for name in self.row_names]

    def sum(self, things=None):
        things = self.things() if things is None else things
        pairs = [(thing, self.chance.choice((-2, -1, 1, 1, 1))) for thing in self.some(things, 2)]
        return sum_of(pairs, self.chance.choice((-3, -1, 0, 0, 1, 2))).text()

    def condition(self, things=None, depth=2):
        roll = self.chance.random()
        if depth > 1 and roll < 0.1:
            return "not (" + self.condition(things, 1) + ")"
        if depth > 1 and roll < 0.3:
            word = self.chance.choice((" and ", " or "))
            return word.join(self.condition(things, 1) for _ in range(2))
        if roll < 0.7:
            # Such a one holds most of the time, so that runs come further.
            return self.sum(things) + self.chance.choice((" >= -", " != ", " < ")) + str(self.chance.randint(5, 30))
        return self.sum(things) + " " + self.chance.choice(SIGNS) + " " + self.sum(things)

    def steps(self, least, most, depth):
        for _ in range(self.chance.randint(least, most)):
            self.step(depth)

    def step(self, depth):
        kinds = [self.let, self.let, self.let, self.divide, self.make, self.claim]
        kinds += [self.fetch, self.put] if len(self.row_names) > 1 or self.chance.random() < 0.2 else []
        if self.heads:
            kinds += [self.call, self.call]
        if depth > 0 and self.chance.random() < 0.4:
            self.chance.choice((self.choose, self.repeat))(depth - 1)
        else:
            self.chance.choice(kinds)()

    def written_name(self):
        return self.chance.choice(("x", "y", "i"))

    def let(self):
        self.rows.append(f"let {self.written_name()} = {self.sum()}")

    def divide(self):
        by = self.chance.choice((self.sum(), "2", "3", "-2", "-3", "1", "-1", "0"))
        self.rows.append(f"let {self.written_name()} = {self.sum()} {self.chance.choice(('div', 'mod'))} {by}")

    def place(self, row):
        return self.chance.choice(("0", "0", "0", f"#{row} - 1", f"#{row} - 1", "i", self.sum()))

    def row_name(self):
        """The last one is a param, if there is one, and has numbers most of the time."""
        return self.chance.choice(self.row_names + self.row_names[-1:] * 4)

    def fetch(self):
        row = self.row_name()
        self.rows.append(f"let {self.written_name()} = {row} at {self.place(row)}")

    def put(self):
        row = self.row_name()
        self.rows.append(f"put {row} at {self.place(row)} = {self.sum()}")

    def make(self):
        size = self.chance.choice(("0", "1", "2", "3", "4", "-1", "#c + 1", "#c - 1", "2 - #c"))
        self.rows.append(f"row {self.chance.choice(self.own_rows)} = {size}")

    def claim(self):
        self.rows.append("claim " + self.condition())

    def call(self):
        name, params, answers = self.chance.choice(self.heads)
        given = ["#" + self.row_name() if param[0] == "#" else self.sum() for param in params]
        names = self.chance.sample(["x", "y", "i"], len(answers))
        words = ["call", *names, *(["="] if names else []), name]
        self.rows.append(" ".join(words + ([", ".join(given)] if given else [])))

    def choose(self, depth):
        self.rows.append("if " + self.condition())
        self.steps(0, 2, depth)
        if self.chance.random() < 0.5:
            self.rows.append("else")
            self.steps(1, 2, depth)
        self.rows.append("end")

    def repeat(self, depth):
        counted = self.chance.random() < 0.7
        bound = self.chance.randint(1, 4)
        if counted:
            self.rows.append("let i = 0")
        self.rows.append(f"while i < {bound}" if counted else "while " + self.condition())
        self.writings("holds", self.things(), 2)
        if self.chance.random() < 0.3:
            self.rows.append(f"holds {self.written_name()} <= {self.chance.randint(0, 2)}")
        if self.chance.random() < 0.6:
            self.rows.append(f"falls {bound} - i" if counted else "falls " + self.sum())
        self.steps(0, 2, depth)
        if counted:
            self.rows.append("let i = i + 1")
        self.rows.append("end")

    def given(self, name):
        params = [params for other, params, answers in self.heads if other == name][0]
        return [[self.chance.randint(-3, 5) for _ in range(self.chance.choice((0, 1, 1, 2, 3)))] if param[0] == "#"
                else self.chance.randint(-3, 6) for param in params]


class Halted(Exception):
    pass


class Walked:
    """A second runner, made of what a program tells alone. `events` are what it comes to: (helper, kind, at, way,
    things, truth), way being the numbers of the any-rows by which a debt there would be gone along, and things those
    that the helper's things have."""

    def __init__(self, told, name, given, most):
        self.helpers = {helper[2]: helper for helper in told}
        self.left = most
        self.events = []
        rows = [list(thing) if isinstance(thing, (list, tuple)) else thing for thing in given]
        self.turns = 0
        try:
            frame = self.walk_helper(name, rows, None)
            self.outcome = (tuple(frame["things"][name] for name in self.helpers[name][4]),
                            tuple(tuple(row) for row in rows if isinstance(row, list)))
        except Halted as halt:
            self.outcome = ("fault",) + halt.args

    def total(self, told, things):
        return told[1] + sum(weight * things[thing] for thing, weight in told[0])

    def truth(self, told, things):
        if told[0] == "not":
            return not self.truth(told[1], things)
        if told[0] in ("and", "or"):
            truths = [self.truth(part, things) for part in told[1:]]
            return False not in truths if told[0] == "and" else True in truths
        one, other = self.total(told[1], things), self.total(told[3], things)
        return {"<": one < other, "<=": one <= other, "=": one == other, "!=": one != other, ">=": one >= other,
                ">": one > other}[told[2]]

    def come_to(self, frame, kind, at, truth):
        if frame is not None:
            self.events.append((frame["name"], kind, at, tuple(frame["way"]), dict(frame["things"]), truth))
        if not truth:
            raise Halted(kind, at)

    def turn(self, at):
        self.left -= 1
        if self.left < 0:
            raise Halted("long", at)
        self.turns += 1

    def walk_helper(self, name, given, call):
        """`call` is the frame that calls and where its call is, or None for the run's own helper."""
        word, place, name, params, answers, needs, gives, steps = self.helpers[name]
        things, rows = {}, {}
        for param, thing in zip(params, given):
            if param[0] == "#":
                rows[param[1:]] = thing
            things[param] = len(thing) if param[0] == "#" else thing
        frame = {"name": name, "things": things, "rows": rows, "way": [things[param] for param in params]}
        for thing in things_told(steps) | set(answers):
            if thing not in things:
                things[thing] = 0
                if thing[0] == "#":
                    rows[thing[1:]] = []
        truths = [self.truth(condition, things) for at, condition in needs]
        if call is not None and needs:
            self.come_to(call[0], "needs", call[1], False not in truths)
        if False in truths:
            raise Halted("needs", needs[truths.index(False)][0] if call is None else call[1])
        self.walk_steps(frame, steps)
        for at, condition in gives:
            self.come_to(frame, "gives", at, self.truth(condition, things))
        return frame

    def walk_steps(self, frame, steps):
        for step in steps:
            if step[0] != "repeat":
                self.turn(step[1])
            getattr(self, "walk_" + step[0])(frame, *step[1:])

    def walk_let(self, frame, at, name, total):
        frame["things"][name] = self.total(total, frame["things"])

    def walk_divide(self, frame, at, name, word, total, by):
        one, other = self.total(total, frame["things"]), self.total(by, frame["things"])
        self.come_to(frame, "nought", at, other != 0)
        # Found by steps of one: no sign of Python's own tells here what is asked.
        quotient = one // other if abs(one) > 1000 else min(
            (k for k in range(-1001, 1002) if 0 <= one - k * other < other or other < one - k * other <= 0))
        left = one - quotient * other
        frame["things"][name] = quotient if word == "div" else left
        frame["way"].append(frame["things"][name] if by[0] else quotient)

    def walk_fetch(self, frame, at, name, row, place):
        where = self.place(frame, at, row, place)
        frame["things"][name] = frame["rows"][row][where]
        frame["way"].append(frame["things"][name])

    def walk_put(self, frame, at, row, place, total):
        where = self.place(frame, at, row, place)
        frame["rows"][row][where] = self.total(total, frame["things"])

    def place(self, frame, at, row, place):
        where = self.total(place, frame["things"])
        self.come_to(frame, "beyond", at, where in range(len(frame["rows"][row])))
        return where

    def walk_make(self, frame, at, row, size):
        length = self.total(size, frame["things"])
        self.come_to(frame, "short", at, length >= 0)
        frame["rows"][row] = [0 for _ in range(length)]
        frame["things"]["#" + row] = length

    def walk_claim(self, frame, at, condition):
        self.come_to(frame, "claim", at, self.truth(condition, frame["things"]))

    def walk_choose(self, frame, at, condition, then, other):
        self.walk_steps(frame, then if self.truth(condition, frame["things"]) else other)

    def walk_repeat(self, frame, at, condition, keeps, falls, body):
        things, way = frame["things"], list(frame["way"])
        written = sorted(written_told(body))
        for place, keep in keeps:
            self.come_to(frame, "first", place, self.truth(keep, things))
        while True:
            frame["way"] = way + [things[thing] for thing in written]
            self.turn(at)
            if not self.truth(condition, things):
                return
            begun = falls and self.total(falls[1], things)
            if falls:
                self.come_to(frame, "bound", falls[0], begun >= 0)
            self.walk_steps(frame, body)
            for place, keep in keeps:
                self.come_to(frame, "again", place, self.truth(keep, things))
            if falls:
                self.come_to(frame, "falls", falls[0], self.total(falls[1], things) < begun)

    def walk_call(self, frame, at, names, helper, given):
        params, answers = self.helpers[helper][3:5]
        handed = [frame["rows"][total[0][0][0][1:]] if param[0] == "#" else self.total(total, frame["things"])
                  for param, total in zip(params, given)]
        inner = self.walk_helper(helper, handed, (frame, at))
        for name, answer in zip(names, answers):
            frame["things"][name] = inner["things"][answer]
            frame["way"].append(frame["things"][name])


def things_told(told):
    """All things in what steps tell: names that are let and fetched into and called for, rows, and those of sums."""
    found = set()
    for step in told:
        kind = step[0]
        if kind in ("let", "divide", "fetch"):
            found.add(step[2])
        if kind in ("fetch", "put", "make"):
            found.add("#" + step[3 if kind == "fetch" else 2])
        if kind == "call":
            found.update(step[2])
        for part in step[2:]:
            found |= things_of_part(part)
    return found


def things_of_part(part):
    """The things of whatever stands in a tuple: a pair of terms and a number is a Sum."""
    if not isinstance(part, tuple) or not part:
        return set()
    if len(part) == 2 and isinstance(part[0], tuple) and isinstance(part[1], int):
        return {thing for thing, weight in part[0]}
    if part[0] in BUILDERS and part[0] not in ("compare", "not", "and", "or") and len(part) > 1:
        return things_told([part])
    found = set()
    for one in part:
        found |= things_of_part(one)
    return found


def written_told(told):
    found = set()
    for step in told:
        if step[0] in ("let", "divide", "fetch"):
            found.add(step[2])
        if step[0] == "make":
            found.add("#" + step[2])
        if step[0] == "call":
            found.update(step[2])
        if step[0] == "choose":
            found |= written_told(step[3]) | written_told(step[4])
        if step[0] == "repeat":
            found |= written_told(step[5])
    return found
