"""A second mender, over rows of text alone, and drawn programs whose loops lack something."""

import re

from holdwright.errors import TooMany
from holdwright.looking import looked
from holdwright.programs import written
from holdwright.sums import sum_of
from support import SIGNS, DrawnSense, program_of


def rows_of(program):
    return written(program).splitlines()


def first_word(row):
    return row.split(" ")[0]


def second_mended(rows):
    """The rows, as they are written, with those that mending is to put in."""
    first = rows_of(program_of(*rows))
    found = [(row, False) for row in first]
    for number in range(len([row for row in first if first_word(row) == "while"])):
        found = second_candidates(found, number)
        found = second_falls(found, number)
    new = [at for at, (row, is_new) in enumerate(found) if is_new]
    mended = [row for row, is_new in found]
    return first if second_missing(mended, new) else mended


class SecondLoop:
    """The loop of this number: `at`, `condition`, `keeps`, the texts of its holds, `falls`, whether it has one,
    `behind`, the row behind its holds, and `writes`, the things that its steps write."""

    def __init__(self, rows, number):
        self.at = [at for at, row in enumerate(rows) if first_word(row) == "while"][number]
        self.condition = rows[self.at][len("while "):]
        self.behind = self.at + 1
        while first_word(rows[self.behind]) == "holds":
            self.behind += 1
        self.keeps = [row[len("holds "):] for row in rows[self.at + 1:self.behind]]
        self.falls = first_word(rows[self.behind]) == "falls"
        self.writes = set()
        depth = 1
        for row in rows[self.behind:]:
            depth += {"while": 1, "if": 1, "end": -1}.get(first_word(row), 0)
            if depth == 0:
                break
            self.writes |= second_writes(row)


def second_writes(row):
    if first_word(row) == "let":
        return {row.split(" ")[1]}
    if first_word(row) == "row":
        return {"#" + row.split(" ")[1]}
    if first_word(row) == "call" and " = " in row:
        return set(row.split(" = ")[0].split(" ")[1:])
    return set()


def second_candidates(found, number):
    rows = [row for row, is_new in found]
    loop = SecondLoop(rows, number)
    texts = []
    for text in second_likely(loop):
        if text not in loop.keeps + texts:
            texts.append(text)
    room = min(6, 12 - len(loop.keeps), 200 - len(rows))
    texts = texts[:room] if room > 0 else []
    while texts:
        tried = rows[:loop.behind] + ["holds " + text for text in texts] + rows[loop.behind:]
        missing = second_missing(tried, range(loop.behind, loop.behind + len(texts)))
        if missing is None:
            return found
        if not missing:
            break
        texts = [text for place, text in enumerate(texts) if loop.behind + place not in missing]
    return found[:loop.behind] + [("holds " + text, True) for text in texts] + found[loop.behind:]


def second_likely(loop):
    names = sorted(thing for thing in loop.writes if thing[0] != "#")
    things = sorted(set(re.findall(r"#?[a-z]+", loop.condition)) - {"and", "or", "not"} - loop.writes)
    if is_comparison(loop.condition):
        for sign in (" < ", " > "):
            if sign in loop.condition:
                yield loop.condition.replace(sign, sign[:2] + "= ")
    for name in names:
        yield "0 <= " + name
    for name in names:
        for thing in things:
            yield name + " <= " + thing


def is_comparison(condition):
    return not re.search(r"\b(and|or|not)\b", condition)


def second_falls(found, number):
    rows = [row for row, is_new in found]
    loop = SecondLoop(rows, number)
    parts = re.split(r" (<=|<|>=|>) ", loop.condition)
    if loop.falls or not is_comparison(loop.condition) or len(parts) != 3 or len(rows) > 199:
        return found
    lesser, greater = (parts[0], parts[2]) if "<" in parts[1] else (parts[2], parts[0])
    total = second_difference(greater, lesser)
    if len(total.terms) > 8 or re.search(r"\d{10}", total.text()):
        return found
    tried = rows[:loop.behind] + ["falls " + total.text()] + rows[loop.behind:]
    if second_missing(tried, [loop.behind]) != set():
        return found
    return found[:loop.behind] + [("falls " + total.text(), True)] + found[loop.behind:]


def second_difference(greater, lesser):
    pairs, number = [], 0
    for text, turn in ((greater, 1), (lesser, -1)):
        for sign, often, thing in re.findall(r"(-? ?)(\d*)\*?(#?[a-z]*)(?: \+ | )?", text):
            size = turn * (-1 if "-" in sign else 1) * int(often or "1")
            if thing:
                pairs.append((thing, size))
            elif often:
                number += size
    return sum_of(pairs, number)


def second_missing(rows, places):
    """Those of the places at which a debt isn't shown; None where the debts of a helper with such a place are too
    many."""
    program = program_of(*rows)
    ends = [helper.at for helper in program.helpers[1:]] + [len(rows)]
    found = set()
    for helper, end in zip(program.helpers, ends):
        if not any(helper.at <= place < end for place in places):
            continue
        try:
            answers = looked(program, helper.name)
        except TooMany:
            return None
        found |= {at for kind, at, word, shown in answers if at in places and word != "shown"}
    return found


class DrawnLoops(DrawnSense):
    """As DrawnSense, but its loops often count up or down to something and have few writings."""

    def repeat(self, depth):
        name, bound = self.written_name(), self.chance.choice(self.things() + ["4", "n + 2", "-3"])
        if bound == name or bound not in self.things():
            bound = self.chance.choice(("4", "3", "-3"))
        up = self.chance.random() < 0.6
        if self.chance.random() < 0.4:
            self.rows.append(f"let {name} = {self.chance.choice(('0', '1', bound))}")
        sign = self.chance.choice(("<", "<=", "!=", "<")) if up else self.chance.choice((">", ">=", "!=", "="))
        sides = (name, sign, bound) if self.chance.random() < 0.7 else (bound, SIGNS[5 - SIGNS.index(sign)], name)
        condition = " ".join(sides)
        if self.chance.random() < 0.15:
            condition = self.chance.choice((f"{condition} and x < 9", f"not ({condition})", f"{condition} or x > 20"))
        self.rows.append("while " + condition)
        self.writings("holds", self.things(), self.chance.choice((0, 0, 1)))
        if self.chance.random() < 0.1:
            self.rows.append("holds 0 <= x")
        if self.chance.random() < 0.15:
            self.rows.append("falls " + self.sum())
        self.steps(0, 2, depth)
        self.rows.append(f"let {name} = {name} {'+' if up else '-'} {self.chance.randint(1, 2)}")
        self.rows.append("end")
