"""Helpers and the programs made of them, and the texts that write them."""

from holdwright.steps import as_pairs, rows_of_pairs, rows_of_steps, told_each, told_pairs


class Helper:
    def __init__(self, at, name, params, answers, needs, gives, steps):
        self.at = at
        self.name = name
        self.params = tuple(params)
        self.answers = tuple(answers)
        self.needs = as_pairs(needs)
        self.gives = as_pairs(gives)
        self.steps = tuple(steps)

    def told(self):
        return ("helper", self.at, self.name, self.params, self.answers,
                told_pairs(self.needs), told_pairs(self.gives), told_each(self.steps))

    def as_rows(self):
        rows = [" ".join(["helper", self.name] + list(self.params))]
        if len(self.answers) > 0:
            rows.append(" ".join(["answers"] + list(self.answers)))
        rows = rows + rows_of_pairs("needs", self.needs) + rows_of_pairs("gives", self.gives)
        return rows + rows_of_steps(self.steps) + ["end"]


class Program:
    def __init__(self, helpers):
        self.helpers = tuple(helpers)

    def named(self, name):
        for helper in self.helpers:
            if helper.name == name:
                return helper
        return None

    def told(self):
        return told_each(self.helpers)


def written(program):
    return text_of_rows(rows_of_program(program))


def rows_of_program(program):
    rows = []
    for helper in program.helpers:
        rows.extend(helper.as_rows())
    return rows


def text_of_rows(rows):
    return "".join([row + "\n" for row in rows])
