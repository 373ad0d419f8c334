"""Sums of things, each so and so often, and a number."""


class Sum:
    def __init__(self, terms, number):
        # The terms may come as a list of lists, which stays its owner's.
        self.terms = tuple([tuple(pair) for pair in terms])
        self.number = number

    def value(self, numbers):
        return self.number + sum([weight * numbers[thing] for thing, weight in self.terms])

    def plus(self, other):
        return sum_of(self.terms + other.terms, self.number + other.number)

    def less(self, other):
        return self.plus(other.times(-1))

    def times(self, number):
        return sum_of([(thing, weight * number) for thing, weight in self.terms], self.number * number)

    def put_in(self, sums):
        # What is put in isn't looked through again, so that all stands in at once.
        pairs = []
        number = self.number
        for thing, weight in self.terms:
            if thing in sums:
                stands_in = sums[thing].times(weight)
                pairs.extend(stands_in.terms)
                number = number + stands_in.number
            else:
                pairs.append((thing, weight))
        return sum_of(pairs, number)

    def things(self):
        return tuple([thing for thing, weight in self.terms])

    def told(self):
        return (self.terms, self.number)

    def text(self):
        parts = [(weight, term_text(thing, weight)) for thing, weight in self.terms]
        if self.number != 0 or len(parts) == 0:
            parts.append((self.number, str(abs(self.number))))
        written = [sign_ahead(parts[0][0]) + parts[0][1]]
        for number, part in parts[1:]:
            written.append(sign_between(number) + part)
        return "".join(written)


# Truths are no numbers, though Python counts them among them.
def is_number(what):
    return isinstance(what, int) and not isinstance(what, bool)


def once(thing):
    return Sum(((thing, 1),), 0)


def sum_of(pairs, number):
    weights = {}
    for thing, weight in pairs:
        weights[thing] = weights.get(thing, 0) + weight
    return Sum([(thing, weights[thing]) for thing in sorted(weights) if weights[thing] != 0], number)


def term_text(thing, weight):
    size = abs(weight)
    if size == 1:
        return thing
    return f"{size}*{thing}"


def sign_ahead(number):
    return "-" if number < 0 else ""


def sign_between(number):
    return " - " if number < 0 else " + "
