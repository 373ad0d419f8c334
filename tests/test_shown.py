"""What refutes is told of holds at all whole numbers, and debts are shown or denied by it."""

import random
import unittest

from holdwright.debts import Debt, debts
from holdwright.eliminating import eliminated
from holdwright.going import along
from holdwright.papers import refutes
from holdwright.plain import owed
from holdwright.sums import sum_of
from support import anything, compare, grid, hold, met, program_of, total
from support_papers import Seeking, second_refutes


class SoundTest(unittest.TestCase):
    """No small numbers meet a case of which refutes is True."""

    def drawn_case(self, chance, things):
        found = []
        for _ in range(chance.randint(2, 5)):
            pairs = [(thing, chance.choice((-3, -2, -1, 1, 2, 3))) for thing in chance.sample(things, len(things) - 1)]
            found.append(sum_of(pairs, chance.randint(-4, 2)))
            if chance.random() < 0.4:
                found.append(found[-1].times(-1).plus(total(chance.randint(0, 1))))
        return found

    def changed(self, chance, paper):
        """The paper with one number or line in it made otherwise."""
        if not paper:
            return paper
        place = chance.randrange(len(paper))
        line = paper[place]
        if line[0] == "cut":
            line = ("cut", line[1] + chance.choice((-1, 0, 1)), line[2] + chance.choice((-1, 0, 1)))
        elif line[0] == "split":
            inner = [self.changed(chance, line[2]), self.changed(chance, line[3])]
            line = ("split", line[1].plus(total(chance.choice((-1, 0, 1)))), inner[0], inner[1])
        else:
            pairs = list(line[1])
            which = chance.randrange(len(pairs))
            pairs[which] = (pairs[which][0] + chance.choice((-1, 0, 1)), pairs[which][1] + chance.choice((-1, 0, 1)))
            line = ("add", tuple(pairs))
        return paper[:place] + (line,) + paper[place + 1:]

    def check(self, case, paper, seen):
        found = refutes(case, paper)
        self.assertIs(found, second_refutes(case, paper))
        seen[found] += 1
        return found

    def test_papers_and_changed_ones(self):
        chance = random.Random(27)
        things = ("x", "y", "z")
        made, seen = {True: 0, False: 0}, {True: 0, False: 0}
        for _ in range(500):
            case = self.drawn_case(chance, things[:chance.randint(2, 3)])
            seeking = Seeking(case, 200)
            if seeking.word == "some":
                continue
            small = [numbers for numbers in grid(things, -5, 5) if met(case, numbers)]
            self.assertEqual(small, [])
            self.assertTrue(self.check(case, seeking.found, made))
            for _ in range(20):
                paper = self.changed(chance, seeking.found)
                # The same paper for another case, in which one Sum is a little greater: it may be met.
                which = chance.randrange(len(case))
                other = case[:which] + [case[which].plus(total(chance.randint(0, 2)))] + case[which + 1:]
                if self.check(other, paper, seen):
                    self.assertFalse(any(met(other, numbers) for numbers in grid(things, -3, 3)), (other, paper))
        self.assertGreater(made[True], 150)
        self.assertGreater(min(seen.values()), 300)

    def test_a_case_that_is_met_is_refuted_by_no_paper(self):
        chance = random.Random(270)
        papers = []
        while len(papers) < 60:
            case = self.drawn_case(chance, ("x", "y"))
            word, found = eliminated(case)
            if word == "none":
                papers.append(found)
        for _ in range(150):
            case = self.drawn_case(chance, ("x", "y"))
            if any(met(case, numbers) for numbers in grid(("x", "y"), -4, 4)):
                for paper in papers:
                    self.assertIs(refutes(case, paper), False)


class ChainTest(unittest.TestCase):
    """Holds x1 >= w*x0 + c, x2 >= w*x1 + c and so on: how great the last is at least is shown by adding them up."""

    def chain(self, steps, first, bound):
        """The debt, steps being pairs (w, c)."""
        rows = [anything("x0"), hold("x0", ">=", first)]
        for place, (weight, number) in enumerate(steps, 1):
            rows += [anything(f"x{place}"), hold(f"x{place}", ">=", total(number, **{f"x{place - 1}": weight}))]
        return Debt("claim", 1, tuple(rows), compare(f"x{len(steps)}", ">=", bound))

    def least(self, steps, first):
        """The least numbers that all holds let."""
        numbers = [first]
        for weight, number in steps:
            numbers.append(weight * numbers[-1] + number)
        return numbers

    def paper(self, steps):
        """Each hold as often as the weights behind it make, and the opposite of the condition once."""
        often, pairs = 1, [(1, len(steps) + 1)]
        for place in range(len(steps), 0, -1):
            pairs.append((often, place))
            often *= steps[place - 1][0]
        return (("add", tuple(pairs + [(often, 0)])),)

    def test_drawn_chains(self):
        chance = random.Random(2721)
        for length in list(range(12)) * 4:
            steps = [(chance.randint(1, 4), chance.randint(-5, 5)) for _ in range(length)]
            first = chance.randint(-3, 3)
            numbers = self.least(steps, first)
            paper = self.paper(steps)
            for bound in (numbers[-1], numbers[-1] - 1, numbers[-1] - 20):
                debt = self.chain(steps, first, bound)
                [case] = owed(debt)
                self.assertIs(refutes(case, paper), True)
                self.assertIs(second_refutes(case, paper), True)
                self.assertEqual(Seeking(case, 1).word, "none")
            debt = self.chain(steps, first, numbers[-1] + 1)
            [case] = owed(debt)
            self.assertIs(refutes(case, paper), False)
            self.assertTrue(met(case, {f"?{place}": number for place, number in enumerate(numbers)}))
            things = along(debt.ahead, numbers)
            self.assertEqual(list(things.values()), numbers)
            self.assertIs(debt.condition.holds(things), False)
            self.assertEqual(Seeking(case, 1).word, "some")

    def test_a_chain_by_hand(self):
        debt = self.chain([(2, 3), (5, -1)], 1, 24)
        [case] = owed(debt)
        self.assertEqual([one.text() for one in case], ["?0 - 1", "-2*?0 + ?1 - 3", "-5*?1 + ?2 + 1", "-?2 + 23"])
        self.assertIs(refutes(case, (("add", ((10, 0), (5, 1), (1, 2), (1, 3))),)), True)
        [case] = owed(self.chain([(2, 3), (5, -1)], 1, 25))
        self.assertIs(refutes(case, (("add", ((10, 0), (5, 1), (1, 2), (1, 3))),)), False)
        self.assertEqual(along(debt.ahead, [1, 5, 24]), {"x0": 1, "x1": 5, "x2": 24})

    def test_a_condition_of_two_cases(self):
        rows = (anything("x"), hold("x", ">=", 4), hold("x", "<=", 6))
        debt = Debt("claim", 1, rows, compare("x", "=", 5))
        cases = owed(debt)
        self.assertEqual([[one.text() for one in case] for case in cases],
                         [["?0 - 4", "-?0 + 6", "-?0 + 4"], ["?0 - 4", "-?0 + 6", "?0 - 6"]])
        for case, number in zip(cases, (4, 6)):
            self.assertTrue(met(case, {"?0": number}))
            self.assertIs(debt.condition.holds(along(debt.ahead, [number])), False)


class ProgramTest(unittest.TestCase):
    def test_a_loop_that_counts_up(self):
        program = program_of("helper upto n", "answers s", "needs 0 <= n", "gives s >= n", "while i < n",
                             "holds i <= n and s >= i", "falls n - i", "let i = i + 1", "let s = i + s", "end", "end")
        first, bound, again, falls, gives = debts(program, "upto")
        self.assertEqual([[one.text() for one in case] for case in owed(first)], [["?0", "-?0 - 1"]])
        self.assertIs(refutes(owed(first)[0], (("add", ((1, 0), (1, 1))),)), True)
        [case] = owed(bound)
        self.assertEqual([one.text() for one in case], ["?0", "?0", "?0 - ?1", "-?1 + ?2", "?0 - ?1 - 1",
                                                        "-?0 + ?1 - 1"])
        self.assertIs(refutes(case, (("add", ((1, 4), (1, 5))),)), True)
        one, other = owed(again)
        self.assertEqual(one[-1].text(), "-?0 + ?1")
        self.assertIs(refutes(one, (("add", ((1, 4), (1, len(one) - 1))),)), True)
        # That s is at least i holds only where s isn't below 0, of which nothing is written.
        word, numbers = eliminated(other)
        self.assertEqual(word, "some")
        things = along(again.ahead, [numbers[f"?{place}"] for place in range(3)])
        self.assertIs(again.condition.holds(things), False)
        self.assertEqual(owed(falls), [])
        self.assertEqual(len(owed(gives)), 1)
        self.assertIs(refutes(owed(gives)[0], (("add", ((1, 3), (1, 4), (1, 5))),)), True)

    def test_a_half(self):
        program = program_of("helper f n", "answers x", "gives 2*x <= n", "let x = n div 2", "claim 2*x >= n",
                             "claim 2*x + 1 >= n", "end")
        nought, untrue, true, gives = debts(program, "f")
        self.assertEqual(owed(nought), [])
        [case] = owed(gives)
        self.assertEqual([one.text() for one in case][:2], ["?0 - 2*?1", "-?0 + 2*?1 + 1"])
        self.assertIs(refutes(case, (("add", ((1, 0), (1, len(case) - 1))),)), True)
        [case] = owed(true)
        self.assertIs(refutes(case, (("add", ((1, 1), (1, len(case) - 1))),)), True)
        [case] = owed(untrue)
        self.assertTrue(met(case, {"?0": 1, "?1": 0}))
        self.assertIs(untrue.condition.holds(along(untrue.ahead, [1, 0])), False)


if __name__ == "__main__":
    unittest.main()
