"""Texts changed by chance: which row is refused first, as another way of looking at rows tells it."""

import random
import re
import unittest

from holdwright.errors import NoText
from holdwright.programs import written
from holdwright.reading import read
from support import KEPT, Drawn, text_of

NAME = r"(?!(?:" + "|".join(KEPT) + r")(?![a-z]))[a-z]{1,8}(?![a-z])"
THING = r"#?" + NAME
FIGURES = r"(?:0|[1-9][0-9]{0,8})(?![0-9])"
TERM = rf"(?:{FIGURES}\*{THING}|{FIGURES}|{THING})"
SUM = rf"(-?{TERM}(?: [+-] {TERM})*)"
PLAIN_SUM = SUM.replace("(-?", "(?:-?", 1)
COMPARISON = re.compile(rf"{SUM} (?:<=|<|=|!=|>=|>) {SUM}")
NAMES = rf"{NAME}(?: {NAME})*"

# What is left of a condition when its comparisons, and what is made of them, are marked off.
ATOM, GROUP, WRONG = "\x01", "\x02", "\x03"
CHAIN = rf"[{ATOM}{GROUP}](?:(?: and [{ATOM}{GROUP}])+|(?: or [{ATOM}{GROUP}])+)"

FORMS = {
    "helper": rf"helper {NAME}(?: {THING})*",
    "answers": rf"answers {NAMES}",
    "end": "end",
    "else": "else",
    "falls": rf"falls {SUM}",
    "let": rf"let {NAME} = {SUM}",
    "divide": rf"let {NAME} = {SUM} (?:div|mod) {SUM}",
    "fetch": rf"let {NAME} = {NAME} at {SUM}",
    "put": rf"put {NAME} at {SUM} = {SUM}",
    "make": rf"row {NAME} = {SUM}",
    "call": rf"call (?:{NAMES} = )?{NAME}(?: ({PLAIN_SUM}(?:, {PLAIN_SUM})*))?",
}
FORMS = {kind: re.compile(form) for kind, form in FORMS.items()}

CONDITIONS = ("needs", "gives", "holds", "claim", "if", "while")


def is_small(total):
    """Whether no numbers, added up, have more than 9 figures."""
    numbers = {}
    for sign, term in re.findall(r"([+-])? ?([0-9a-z#*]+)", total):
        figures, thing = re.fullmatch(r"([0-9]*)\*?(#?[a-z]*)", term).groups()
        weight = int(figures or "1") * (-1 if sign == "-" else 1)
        numbers[thing] = numbers.get(thing, 0) + weight
    return all(abs(number) < 10 ** 9 for number in numbers.values())


def is_condition(text):
    def mark(match):
        return ATOM if is_small(match[1]) and is_small(match[2]) else WRONG

    left = COMPARISON.sub(mark, text)
    seen = None
    while seen != left:
        seen = left
        left = re.sub(rf"not \((?:{ATOM}|{CHAIN})\)", ATOM, left)
        left = re.sub(rf"(?<!not )\({CHAIN}\)", GROUP, left)
    return re.fullmatch(rf"{ATOM}|{CHAIN}", left) is not None


def kind_of(row):
    """The kind of the row, None of a row of no form."""
    word, _, rest = row.partition(" ")
    if word in CONDITIONS:
        return word if is_condition(rest) else None
    for kind, form in FORMS.items():
        match = form.fullmatch(row)
        if match:
            totals = [total for group in match.groups() if group for total in group.split(", ")]
            return kind if all(is_small(total) for total in totals) else None
    return None


# For each kind of block, where in it one is: which rows may come, and where one is then. None: out of the block.
STEP = "step"
HEADS = {
    "helper": {"answers": "answers", "needs": "needs", "gives": "gives", STEP: STEP, "end": None},
    "answers": {"needs": "needs", "gives": "gives", STEP: STEP, "end": None},
    "needs": {"needs": "needs", "gives": "gives", STEP: STEP, "end": None},
    "gives": {"gives": "gives", STEP: STEP, "end": None},
    STEP: {STEP: STEP, "end": None},
    "while": {"holds": "while", "falls": STEP, STEP: STEP, "end": None},
    "if": {STEP: "if", "else": "else", "end": None},
    "else": {STEP: STEP},
}


def first_wrong(text):
    """The number of the first row that is wrong, None of a program's text."""
    rows = text.split("\n")
    behind = rows.pop()
    places = []
    for at, row in enumerate(rows):
        kind = kind_of(row)
        if not places:
            if kind != "helper":
                return at
            places.append("helper")
            continue
        step = kind if kind in ("if", "while") else None
        came = STEP if kind in ("let", "divide", "fetch", "put", "make", "claim", "call", "if", "while") else kind
        if came not in HEADS[places[-1]]:
            return at
        place = HEADS[places[-1]][came]
        places = places[:-1] + ([] if place is None else [place]) + ([step] if step else [])
    return len(rows) if places or not rows or behind else None


def changed(chance, rows):
    """A text that differs by a sign, a word or a row from that of these rows."""
    rows = list(rows)
    at = chance.randrange(len(rows))
    way = chance.randrange(8)
    if way < 3:
        row = rows[at]
        place = chance.randint(0, len(row))
        sign = chance.choice(" abnotdr0129#*+-<>=!(),\nX")
        rows[at] = row[:place] + ("" if way == 1 else sign) + row[place + (way < 2):]
    elif way < 5:
        words = rows[at].split(" ")
        place = chance.randrange(len(words))
        others = chance.choice(rows).split(" ") + KEPT + ["x", "#a", "-1", "(x", "3)", "999999999", "99999999*x"]
        words[place:place + chance.randint(0, 1)] = [chance.choice(others)] * chance.randint(0, 1)
        rows[at] = " ".join(words)
    elif way == 5:
        del rows[at]
    elif way == 6:
        rows.insert(at, chance.choice(rows + ["end", "else", "if x < 3", "while x < 3", "let x = 1", "falls x"]))
    else:
        other = chance.randrange(len(rows))
        rows[at], rows[other] = rows[other], rows[at]
    return text_of(*rows)[:-1 if chance.random() < 0.02 else None]


class WrongTextTest(unittest.TestCase):
    def check(self, text):
        """True where the text is read."""
        wrong = first_wrong(text)
        try:
            program = read(text)
        except NoText as error:
            self.assertEqual(error.at, wrong, text)
            return False
        self.assertIsNone(wrong, text)
        again = read(written(program))
        self.assertEqual(again.told(), program.told(), text)
        self.assertEqual(written(again), written(program), text)
        return True

    def test_texts_changed_by_chance(self):
        chance = random.Random(13)
        counts = {True: 0, False: 0}
        for _ in range(120):
            rows = Drawn(chance).loose
            self.assertTrue(self.check(text_of(*rows)))
            for _ in range(20):
                counts[self.check(changed(chance, rows))] += 1
        self.assertGreater(min(counts.values()), 300)

    def test_conditions_changed_by_chance(self):
        chance = random.Random(14)
        counts = {True: 0, False: 0}
        drawn = Drawn(chance)
        for _ in range(150):
            (loose, strict), told = drawn.condition(4)
            for _ in range(10):
                text = changed(chance, ["helper f", "claim " + strict, "end"])
                counts[self.check(text)] += 1
        self.assertGreater(min(counts.values()), 100)

    def test_rows_by_chance(self):
        chance = random.Random(15)
        rows = ("helper f", "answers x", "needs x < 3", "gives x < 3", "let x = 1", "if x < 3", "else", "while x < 3",
                "holds x < 3", "falls x", "end", "end", "end")
        for _ in range(3000):
            self.check(text_of("helper f", *chance.choices(rows, k=chance.randint(0, 9)), "end"))

    def test_short_sums_by_chance(self):
        chance = random.Random(17)
        parts = ("x", "#a", "3", "0", "03", "999999999", "1", "999999999*x", "2*x", "-x", "-1", "+", "-", "*", "div",
                 "")
        counts = {True: 0, False: 0}
        for _ in range(6000):
            total = " ".join(chance.choices(parts, k=chance.choice((1, 3, 3, 5, 2))))
            counts[self.check(text_of("helper f", "let x = " + total, "end"))] += 1
        self.assertGreater(min(counts.values()), 300)


if __name__ == "__main__":
    unittest.main()
