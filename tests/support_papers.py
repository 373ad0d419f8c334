"""What the tests of papers share: a second checker, made without the package's own, and a seeker over splits."""

from holdwright.eliminating import eliminated
from holdwright.errors import TooHard
from holdwright.sums import Sum, sum_of


class Wrong(Exception):
    pass


def asked(truth):
    if not truth:
        raise Wrong


def second_refutes(case, paper):
    """What the document tells of a paper, over pairs of a dict from things to numbers and a number."""
    try:
        return second_end([(dict(one.terms), one.number) for one in case], paper, 0)
    except Wrong:
        return False


def second_end(lines, paper, within):
    asked(type(paper) in (tuple, list))
    last = None
    for line in paper:
        asked(last is None)
        asked(type(line) in (tuple, list) and len(line) > 0)
        word = line[0] if type(line[0]) is str else None
        asked(word in ("add", "cut", "split"))
        asked(len(line) == {"add": 2, "cut": 3, "split": 4}[word])
        if word == "split":
            asked(type(line[1]) is Sum and within < 20)
            terms, number = dict(line[1].terms), line[1].number
            turned = {thing: -weight for thing, weight in terms.items()}
            last = (second_end(lines + [(terms, number)], line[2], within + 1),
                    second_end(lines + [(turned, -number - 1)], line[3], within + 1))
        else:
            lines = lines + [{"add": second_add, "cut": second_cut}[word](lines, line)]
    if last is not None:
        return last == (True, True)
    return len(lines) > 0 and not any(lines[-1][0].values()) and lines[-1][1] < 0


def second_line(lines, number):
    asked(type(number) is int and number in range(len(lines)))
    return lines[number]


def second_add(lines, line):
    asked(type(line[1]) in (tuple, list) and len(line[1]) > 0)
    terms, number = {}, 0
    for pair in line[1]:
        asked(type(pair) in (tuple, list) and len(pair) == 2)
        asked(type(pair[0]) is int and pair[0] > 0)
        more, more_number = second_line(lines, pair[1])
        for thing, weight in more.items():
            terms[thing] = terms.get(thing, 0) + pair[0] * weight
        number += pair[0] * more_number
    return terms, number


def second_cut(lines, line):
    terms, number = second_line(lines, line[1])
    divisor = line[2]
    asked(type(divisor) is int and divisor > 0)
    asked(not any(weight % divisor for weight in terms.values()))
    # The greatest whole number that isn't above the quotient, told by what is left.
    return {thing: weight // divisor for thing, weight in terms.items()}, (number - number % divisor) // divisor


class Seeking:
    """Goes through the parts that splits make, at most so many of them: `word` and `found`, as of eliminated, but for
    a split; and `parts`, how many there were."""

    def __init__(self, sums, most):
        self.left = most
        self.word, self.found = self.seek(list(sums))
        self.parts = most - self.left

    def seek(self, sums):
        if self.left == 0:
            raise TooHard("too many parts")
        self.left -= 1
        word, found = eliminated(sums)
        if word != "split":
            return word, found
        papers = []
        for side in (found, sum_of([(thing, -weight) for thing, weight in found.terms], -found.number - 1)):
            inner, what = self.seek(sums + [side])
            if inner == "some":
                return inner, what
            papers.append(what)
        return "none", (("split", found, papers[0], papers[1]),)


def differences_are_met(sums):
    """Whether whole numbers meet Sums of at most two terms, of weights 1 and -1, told by shortest ways."""
    things = sorted({thing for one in sums for thing in one.things()})
    ways = []
    for one in sums:
        greater = [thing for thing, weight in one.terms if weight > 0] or [""]
        lesser = [thing for thing, weight in one.terms if weight < 0] or [""]
        ways.append((greater[0], lesser[0], one.number))
    far = dict.fromkeys([""] + things, 0)
    for _ in range(len(far) + 1):
        changed = False
        for start, end, length in ways:
            if far[start] + length < far[end]:
                far[end] = far[start] + length
                changed = True
        if not changed:
            return True
    return False
