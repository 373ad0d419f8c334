"""The desk: a program's text with rows that ask something of it, answered by rows."""

from holdwright.debts import debts
from holdwright.errors import Fault, NoRun, NoSense, NoText, TooMany
from holdwright.looking import let_by, look_at, looked
from holdwright.mending import mended
from holdwright.programs import rows_of_program, text_of_rows
from holdwright.reading import are_figures, read
from holdwright.runs import run
from holdwright.sensing import sensible


def played(text):
    rows = text.split("\n")
    behind = rows.pop()
    if behind != "" or "" not in rows:
        raise NoText(len(rows))
    place = rows.index("")
    desk = Desk(sensible_program(text_of_rows(rows[:place])))
    answers = []
    for row in rows[place + 1:]:
        answers.extend(desk.answer(row))
    return text_of_rows(answers)


def sensible_program(text):
    program = read(text)
    wrong = sensible(program)
    if wrong is not None:
        raise NoSense(wrong[0], wrong[1])
    return program


# Keeps the program, which is another one once it is mended. What answers a row is a list of rows.
class Desk:
    def __init__(self, program):
        self.program = program

    def answer(self, row):
        if row == "look":
            return rows_of_look(self.program)
        if row == "let by":
            return ["yes" if let_by(self.program) else "no"]
        if row == "text":
            return rows_of_program(self.program)
        if row == "mend":
            self.program = mended(self.program)
            return ["done"]
        words = row.split(" ")
        if words[0] == "run" and len(words) > 1:
            return rows_of_run(self.program, words[1], [thing_of(word) for word in words[2:]])
        if words[0] == "why" and len(words) == 3 and words[1] != "":
            return rows_of_why(self.program, words[1], number_of(words[2]))
        return ["refused"]


def rows_of_look(program):
    rows = []
    for helper in program.helpers:
        try:
            found = looked(program, helper.name)
        except TooMany:
            rows.append(helper.name + " too many")
        else:
            rows.extend([" ".join([helper.name, kind, str(at), word]) for kind, at, word, shown in found])
    return rows


def rows_of_run(program, name, given):
    # What is given by a word of no form is None, which fits no param.
    try:
        answers, rows = run(program, name, given)
    except NoRun:
        return ["refused"]
    except Fault as fault:
        return [" ".join(["fault", fault.kind, str(fault.at)])]
    return [" ".join(["answers"] + texts_of(answers))] + [text_of_row(row) for row in rows]


def rows_of_why(program, kind, at):
    if at is None:
        return ["refused"]
    for helper in program.helpers:
        for debt in debts_or_none(program, helper.name):
            if debt.kind == kind and debt.at == at:
                word, found = look_at(debt)
                if word == "denied":
                    return [" ".join([helper.name] + texts_of(found))]
    return ["nothing"]


def debts_or_none(program, name):
    try:
        return debts(program, name)
    except TooMany:
        return []


def texts_of(numbers):
    return [str(number) for number in numbers]


def text_of_row(numbers):
    return "[" + ",".join(texts_of(numbers)) + "]"


# What is given by the word: a number, or a list of numbers; None where it is of no form.
def thing_of(word):
    if word == "[]":
        return []
    if not word.startswith("[") or not word.endswith("]"):
        return number_of(word)
    numbers = [number_of(part) for part in word[1:-1].split(",")]
    return None if any([number is None for number in numbers]) else numbers


def number_of(word):
    figures = word[1:] if word.startswith("-") else word
    if figures == "" or not are_figures(figures):
        return None
    # Python reads no figure row that is very long, and the noughts ahead may be many.
    size = int("0" + figures.lstrip("0"))
    return -size if word.startswith("-") else size
