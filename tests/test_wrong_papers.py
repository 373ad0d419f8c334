"""Papers that are wrong somewhere: False, and never an error, whatever they are made of."""

import random
import unittest

from holdwright.papers import refutes
from holdwright.sums import Sum
from support import grid, met, total
from support_papers import second_refutes

# No number is at least 1 and at most 0; of the last Sum no number at all is.
CASE = (total(-1, x=2), total(1, x=-2), total(-1))
PAPER = (("add", ((1, 2), (3, 2))), ("cut", 0, 2),
         ("split", total(-1, x=1), (("cut", 1, 2), ("add", ((1, 6), (1, 5)))), (("add", ((2, 5), (1, 0))),)))

OTHERS = (True, False, None, "", "x", "add", "cut", "split", "01", total(0), total(3), total(x=2), (), [], ("add",),
          (1,), (1, 0), ((1, 0),), ((1, 0), None), (None,), ((),), {}, 1.0)

NUMBERS = (-5, -2, -1, 0, 1, 2, 3, 4, 5, 6, 7, 8, 50, 10 ** 60, -10 ** 60)


def places_in(part):
    """The way to each place in a paper, as a tuple of indexes; () is the paper itself."""
    found = [()]
    if isinstance(part, tuple):
        for place, inner in enumerate(part):
            found.extend((place,) + way for way in places_in(inner))
    return found


def at_place(part, way):
    for place in way:
        part = part[place]
    return part


def changed(part, way, what):
    if not way:
        return what
    return part[:way[0]] + (changed(part[way[0]], way[1:], what),) + part[way[0] + 1:]


class WrongTest(unittest.TestCase):
    def wrong(self, *paper, case=CASE):
        self.assertIs(refutes(case, paper), False, paper)
        # Nor is it mended by a right line behind it.
        if paper:
            self.assertIs(refutes(case, paper + (("add", ((1, 2),)),)), False, paper)

    def right(self, *paper, case=CASE):
        self.assertIs(refutes(case, paper), True, paper)


class FormTest(WrongTest):
    def test_right_ones(self):
        self.right(*PAPER)
        self.right(("add", ((1, 2),)))
        self.right(("cut", 2, 1))

    def test_weights(self):
        for weight in (0, -1, -2, -10 ** 30, True, False, None, "1", (1,), total(1)):
            self.wrong(("add", ((weight, 2),)))
            self.wrong(("add", ((1, 2), (weight, 2))))
            self.wrong(("add", ((weight, 2), (1, 2))))

    def test_weights_that_would_add_up(self):
        # Taken less than no times the first Sum would bring the second one to nought.
        case = (total(1, x=1), total(x=1))
        self.wrong(("add", ((1, 1), (-1, 0))), case=case)

    def test_lines_that_arent_ahead(self):
        for line in (3, 4, 10 ** 30, -1, -2, -3, -4, True, False, None, "0", (0,), total(0)):
            self.wrong(("add", ((1, line),)))
            self.wrong(("add", ((1, 2), (1, line))))
            self.wrong(("cut", line, 1))
        self.right(("add", ((1, 2),)), ("add", ((1, 3),)))
        self.wrong(("add", ((1, 2),)), ("add", ((1, 4),)))
        self.wrong(("add", ((1, 4),)), ("add", ((1, 2),)))
        self.wrong(("add", ((1, 2),)), ("cut", 4, 1))

    def test_lines_of_another_part(self):
        inner = (("add", ((1, 2),)), ("add", ((1, 4),)))
        self.right(("split", total(x=1), inner, inner))
        self.wrong(("split", total(x=1), inner, (("add", ((1, 5),)),)))
        self.wrong(("split", total(x=1), (("add", ((1, 4),)),), inner))

    def test_divisors(self):
        for divisor in (0, -1, -2, True, False, None, "2", (2,), total(2), 2.0):
            self.wrong(("cut", 0, divisor))
            self.wrong(("cut", 2, divisor))
        for divisor in (3, 4, 5, 10 ** 30):
            self.wrong(("cut", 0, divisor))
            self.wrong(("cut", 1, divisor))
            self.right(("cut", 2, divisor))

    def test_no_pair(self):
        for pairs in ((), [], None, "", "12", 1, True, (1, 2), (1,), ((),), ((1,),), ((1, 2, 0),), ("12",), (None,),
                      total(x=1), (total(x=1),), {}, {1: 2}):
            self.wrong(("add", pairs))

    def test_one_pair_of_several(self):
        for pair in ((), (1,), (1, 2, 2), "12", 1, True, None, total(x=1), ((1, 2),), {1: 2, 2: 1}):
            self.wrong(("add", ((1, 2), pair)))
            self.wrong(("add", (pair, (1, 2))))

    def test_too_long_or_too_short(self):
        pairs, side, inner = ((1, 2),), total(x=1), (("add", ((1, 2),)),)
        self.right(("add", pairs))
        self.right(("cut", 2, 1))
        self.right(("split", side, inner, inner))
        for line in (("add",), ("add", pairs, ()), ("add", pairs, pairs), ("add", 1, 2), ("add", (1, 2), (1, 2)),
                     ("cut",), ("cut", 2), ("cut", 2, 1, 1), ("cut", (2, 1)), ("cut", 2, 1, ()),
                     ("split",), ("split", side), ("split", side, inner), ("split", side, inner, inner, inner),
                     ("split", side, inner, inner, ()), (), ((),)):
            self.wrong(line)
            self.wrong(list(line))

    def test_of_another_word(self):
        pairs, side, inner = ((1, 2),), total(x=1), (("add", ((1, 2),)),)
        for word in ("", "Add", "ADD", "adds", "add ", " add", "a", "or", None, True, 0, 1, total(x=1), ("add",)):
            self.wrong((word, pairs))
            self.wrong((word, 2, 1))
            self.wrong((word, side, inner, inner))
        self.wrong(("cut", pairs))
        self.wrong(("split", pairs))
        self.wrong(("add", 2, 1))
        self.wrong(("split", 2, 1))
        self.wrong(("add", side, inner, inner))
        self.wrong(("cut", side, inner, inner))

    def test_lines_of_other_kinds(self):
        for line in (None, True, False, 0, 1, "", "add", "cut", "split", total(-1), {}, {"add": ((1, 2),)}):
            self.wrong(line)
            self.wrong(("add", ((1, 2),)), line)
            self.wrong(line, ("add", ((1, 2),)))

    def test_papers_of_other_kinds(self):
        case = (total(-1),)
        self.assertIs(refutes(case, ()), True)
        self.assertIs(refutes(case, []), True)
        for paper in (None, True, False, 0, 1, -1, "", "add", total(-1), {}, 1.0):
            self.assertIs(refutes(case, paper), False, paper)
            self.assertIs(refutes(case, (("split", total(0), paper, ()),)), False)
            self.assertIs(refutes(case, (("split", total(-1), (), paper),)), False)
            self.assertIs(refutes(case, (("split", total(x=1), (("add", ((1, 0),)),), paper),)), False)

    def test_splits_at_other_things_than_sums(self):
        inner = (("add", ((1, 2),)),)
        self.right(("split", total(5), inner, inner))
        for side in (None, True, False, 0, 1, "", "x", (), (("x", 1), 0), ((("x", 1),), 0), [], inner, {}, 1.0):
            self.wrong(("split", side, inner, inner))

    def test_splits_at_sums_that_arent_made_well(self):
        inner = (("add", ((1, 2),)),)
        for side in (Sum((), True), Sum((), None), Sum((), "1"), Sum((("x", True),), 0), Sum((("x", "1"),), 0),
                     Sum((("x", 0),), 0), Sum(((1, 1),), 0), Sum(((None, 1),), 0), Sum((("y", 1), ("x", 1)), 0),
                     Sum((("x", 1), ("x", 1)), 0), Sum((("x",),), 0), Sum((("x", 1, 1),), 0), Sum(((),), 0)):
            self.wrong(("split", side, inner, inner))

    def test_a_line_that_isnt_needed_must_be_right_too(self):
        self.right(("cut", 0, 2), ("add", ((1, 2),)))
        for line in (("cut", 0, 4), ("add", ()), ("add", ((0, 0),)), ("cut", 9, 1), None):
            self.wrong(line, ("add", ((1, 2),)))


class CaseTest(unittest.TestCase):
    def test_other_things_than_sums(self):
        paper = (("add", ((1, 0),)),)
        self.assertIs(refutes((total(-1), total(x=1)), paper), True)
        for other in (None, True, 0, -1, "", "x", (), ((), -1), (total(-1),), [], Sum((), True),
                      Sum((("x", None),), 1)):
            self.assertIs(refutes((total(-1), other), paper), False, other)
            self.assertIs(refutes((other, total(-1)), ()), False, other)
            self.assertIs(refutes([other], paper), False, other)

    def test_no_case_at_all(self):
        for case in (None, True, 0, "", "x", total(-1), {}):
            self.assertIs(refutes(case, ()), False)
            self.assertIs(refutes(case, (("add", ((1, 0),)),)), False)


class EachPlaceTest(unittest.TestCase):
    def test_places(self):
        self.assertIs(refutes(CASE, PAPER), True)
        self.assertEqual(len(places_in(PAPER)), 41)

    def test_other_kinds_in_each_place(self):
        let_by = []
        for way in places_in(PAPER):
            for what in OTHERS:
                paper = changed(PAPER, way, what)
                found = refutes(CASE, paper)
                self.assertIs(type(found), bool)
                if found:
                    let_by.append((way, what))
        # No more than the word that stands there, and what is of right form: no lines at all, as the case's last Sum is
        # below 0, and pairs.
        self.assertEqual(let_by, [
            ((), ()), ((), []), ((0, 0), "add"), ((0, 1), ((1, 0),)), ((0, 1, 0), (1, 0)), ((0, 1, 1), (1, 0)),
            ((1, 0), "cut"), ((2, 0), "split"), ((2, 2, 0, 0), "cut"), ((2, 2, 1, 0), "add"), ((2, 3, 0, 0), "add"),
            ((2, 3, 0, 1, 1), (1, 0))])

    def test_numbers_in_each_place(self):
        seen = {True: 0, False: 0}
        for way in places_in(PAPER):
            for number in NUMBERS:
                paper = changed(PAPER, way, number)
                found = refutes(CASE, paper)
                self.assertIs(found, second_refutes(CASE, paper), paper)
                seen[found] += 1
        self.assertGreater(seen[True], 30)
        self.assertGreater(seen[False], 300)

    def test_left_out_and_put_in_twice(self):
        for way in places_in(PAPER)[1:]:
            around = at_place(PAPER, way[:-1])
            for less in (around[:way[-1]] + around[way[-1] + 1:], around[:way[-1] + 1] + around[way[-1]:]):
                paper = changed(PAPER, way[:-1], less)
                self.assertIs(refutes(CASE, paper), second_refutes(CASE, paper), paper)


class DrawnTest(unittest.TestCase):
    atoms = (True, False, None, "add", "cut", "split", "", -1, 0, 0, 1, 1, 2, 3, total(-1), total(0), total(x=1),
             total(-1, x=2))

    def drawn(self, chance, depth):
        if depth == 0 or chance.random() < 0.4:
            return chance.choice(self.atoms)
        parts = [self.drawn(chance, depth - 1) for _ in range(chance.randint(0, 4))]
        return tuple(parts) if chance.random() < 0.7 else parts

    def drawn_line(self, chance, depth):
        """A line that is of right form most of the time."""
        roll = chance.random()
        if roll < 0.1:
            return self.drawn(chance, 3)
        if roll < 0.6 or depth == 0:
            pairs = [(chance.choice((1, 1, 2, 3, 0)), chance.randint(-1 if chance.random() < 0.1 else 0, 4))
                     for _ in range(chance.randint(1, 3))]
            return ("add", tuple(pairs))
        if roll < 0.8:
            return ("cut", chance.randint(0, 4), chance.choice((1, 2, 2, 3, 0)))
        return ("split", total(chance.randint(-1, 1), x=chance.randint(-1, 1)), self.drawn_paper(chance, depth - 1),
                self.drawn_paper(chance, depth - 1))

    def drawn_paper(self, chance, depth):
        return tuple(self.drawn_line(chance, depth) for _ in range(chance.randint(0, 3)))

    def test_whatever_it_is_made_of(self):
        chance = random.Random(26)
        for _ in range(5000):
            case = tuple(chance.choice(CASE) for _ in range(chance.randint(0, 3)))
            paper = self.drawn(chance, 6)
            self.assertIs(refutes(case, paper), second_refutes(case, paper), paper)

    def test_nearly_right_ones(self):
        chance = random.Random(260)
        seen = {True: 0, False: 0}
        for _ in range(20000):
            case = [total(chance.randint(-2, 2), x=chance.randint(-2, 2)) for _ in range(chance.randint(1, 3))]
            paper = self.drawn_paper(chance, 2)
            found = refutes(case, paper)
            self.assertIs(found, second_refutes(case, paper), (case, paper))
            seen[found] += 1
            if found:
                self.assertFalse(any(met(case, numbers) for numbers in grid(("x",), -6, 6)))
        self.assertGreater(seen[True], 300)


if __name__ == "__main__":
    unittest.main()
