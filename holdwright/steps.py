"""The steps that a helper is made of, each kind a class of its own."""


# What the kinds have alike. Each of them tells itself by `told`, the rows of text that write it by `as_rows`, and
# the names that its own row has by `uses`: a number's as it stands, a row's as the thing that its length is. So are
# those that it sets told by `writes`; `blocks` are the steps within it.
class Step:
    def __init__(self, at):
        self.at = at

    def writes(self):
        return ()

    def blocks(self):
        return ()


class Let(Step):
    def __init__(self, at, name, total):
        Step.__init__(self, at)
        self.name = name
        self.total = total

    def told(self):
        return ("let", self.at, self.name, self.total.told())

    def uses(self):
        return (self.name,) + self.total.things()

    def writes(self):
        return (self.name,)

    def as_rows(self):
        return [" ".join(["let", self.name, "=", self.total.text()])]


class Divide(Step):
    def __init__(self, at, name, word, total, by):
        Step.__init__(self, at)
        self.name = name
        self.word = word
        self.total = total
        self.by = by

    def told(self):
        return ("divide", self.at, self.name, self.word, self.total.told(), self.by.told())

    def uses(self):
        return (self.name,) + self.total.things() + self.by.things()

    def writes(self):
        return (self.name,)

    def as_rows(self):
        return [" ".join(["let", self.name, "=", self.total.text(), self.word, self.by.text()])]


class Fetch(Step):
    def __init__(self, at, name, row, place):
        Step.__init__(self, at)
        self.name = name
        self.row = row
        self.place = place

    def told(self):
        return ("fetch", self.at, self.name, self.row, self.place.told())

    def uses(self):
        return (self.name, length_of(self.row)) + self.place.things()

    def writes(self):
        return (self.name,)

    def as_rows(self):
        return [" ".join(["let", self.name, "=", self.row, "at", self.place.text()])]


class Put(Step):
    def __init__(self, at, row, place, total):
        Step.__init__(self, at)
        self.row = row
        self.place = place
        self.total = total

    def told(self):
        return ("put", self.at, self.row, self.place.told(), self.total.told())

    def uses(self):
        return (length_of(self.row),) + self.place.things() + self.total.things()

    def as_rows(self):
        return [" ".join(["put", self.row, "at", self.place.text(), "=", self.total.text()])]


class Make(Step):
    def __init__(self, at, row, size):
        Step.__init__(self, at)
        self.row = row
        self.size = size

    def told(self):
        return ("make", self.at, self.row, self.size.told())

    def uses(self):
        return (length_of(self.row),) + self.size.things()

    def writes(self):
        return (length_of(self.row),)

    def as_rows(self):
        return [" ".join(["row", self.row, "=", self.size.text()])]


class Claim(Step):
    def __init__(self, at, condition):
        Step.__init__(self, at)
        self.condition = condition

    def told(self):
        return ("claim", self.at, self.condition.told())

    def uses(self):
        return self.condition.things()

    def as_rows(self):
        return ["claim " + self.condition.text()]


class Choose(Step):
    def __init__(self, at, condition, then, other):
        Step.__init__(self, at)
        self.condition = condition
        self.then = tuple(then)
        self.other = tuple(other)

    def told(self):
        return ("choose", self.at, self.condition.told(), told_each(self.then), told_each(self.other))

    def uses(self):
        return self.condition.things()

    def blocks(self):
        return (self.then, self.other)

    def as_rows(self):
        rows = ["if " + self.condition.text()] + rows_of_steps(self.then)
        if len(self.other) > 0:
            rows = rows + ["else"] + rows_of_steps(self.other)
        return rows + ["end"]


class Repeat(Step):
    def __init__(self, at, condition, keeps, falls, body):
        Step.__init__(self, at)
        self.condition = condition
        self.keeps = as_pairs(keeps)
        # Kept as it is handed in, a list too: so the document has it of this field.
        self.falls = falls
        self.body = tuple(body)

    def told(self):
        falls = None
        if self.falls is not None:
            falls = (self.falls[0], self.falls[1].told())
        return ("repeat", self.at, self.condition.told(), told_pairs(self.keeps), falls, told_each(self.body))

    def uses(self):
        return self.condition.things()

    def blocks(self):
        return (self.body,)

    def as_rows(self):
        rows = ["while " + self.condition.text()] + rows_of_pairs("holds", self.keeps)
        if self.falls is not None:
            rows.append("falls " + self.falls[1].text())
        return rows + rows_of_steps(self.body) + ["end"]


class Call(Step):
    def __init__(self, at, names, helper, given):
        Step.__init__(self, at)
        self.names = tuple(names)
        self.helper = helper
        self.given = tuple(given)

    def told(self):
        return ("call", self.at, self.names, self.helper, told_each(self.given))

    def uses(self):
        found = list(self.names)
        for total in self.given:
            found.extend(total.things())
        return tuple(found)

    def writes(self):
        return self.names

    def as_rows(self):
        words = ["call"]
        if len(self.names) > 0:
            words = words + list(self.names) + ["="]
        words.append(self.helper)
        if len(self.given) > 0:
            words.append(", ".join([total.text() for total in self.given]))
        return [" ".join(words)]


def length_of(row):
    return "#" + row


def as_pairs(pairs):
    return tuple([tuple(pair) for pair in pairs])


def told_each(parts):
    return tuple([part.told() for part in parts])


def told_pairs(pairs):
    return tuple([(at, condition.told()) for at, condition in pairs])


def rows_of_steps(steps):
    rows = []
    for step in steps:
        rows.extend(step.as_rows())
    return rows


def rows_of_pairs(word, pairs):
    return [word + " " + condition.text() for at, condition in pairs]
