"""What a run comes to lies on the debts: runs of drawn programs are gone along with what things had there."""

import random
import unittest

from holdwright.debts import debts
from holdwright.errors import TooMany
from holdwright.going import along
from support import DrawnSense, Walked, outcome, program_of

KINDS = ("needs", "nought", "beyond", "short", "claim", "first", "bound", "again", "falls", "gives")


class WaysTest(unittest.TestCase):
    def debts_of(self, program):
        """From helpers' names to lists of Debts; those of which there are too many are left out."""
        found = {}
        for helper in program.helpers:
            try:
                found[helper.name] = debts(program, helper.name)
            except TooMany:
                continue
        return found

    def check_event(self, known, event, seen):
        name, kind, at, way, things, truth = event
        if name not in known:
            return
        ways = [(debt, along(debt.ahead, way)) for debt in known[name] if (debt.kind, debt.at) == (kind, at)]
        led = [(debt, numbers) for debt, numbers in ways if numbers is not None]
        # Sides of a choice shut one another out, so there is one way and no more.
        self.assertEqual(len(led), 1, event)
        debt, numbers = led[0]
        self.assertEqual({thing: numbers[thing] for thing in things}, things)
        self.assertIs(debt.condition.holds(numbers), truth)
        seen[(kind, truth)] = seen.get((kind, truth), 0) + 1

    def check_run(self, program, known, name, given, most, seen):
        walked = Walked(program.told(), name, given, most)
        found = outcome(program, name, given, most)
        self.assertEqual(found, walked.outcome)
        for event in walked.events:
            self.check_event(known, event, seen)
        # The Fault is what was come to last; all that was come to ahead of it held.
        self.assertTrue(all(event[5] for event in walked.events[:-1]))
        if found[0] == "fault" and found[1] != "long" and walked.events and not walked.events[-1][5]:
            self.assertEqual(walked.events[-1][1:3], found[1:])

    def test_drawn_programs(self):
        chance = random.Random(24)
        seen, many = {}, 0
        for _ in range(1500):
            drawn = DrawnSense(chance)
            program = program_of(*drawn.rows)
            known = self.debts_of(program)
            many += len(program.helpers) - len(known)
            for _ in range(3):
                name = chance.choice(drawn.heads)[0]
                self.check_run(program, known, name, drawn.given(name), chance.choice((10, 60, 300)), seen)
        for kind in KINDS:
            for truth in (True, False):
                self.assertGreater(seen.get((kind, truth), 0), 10, (kind, truth, seen))
        self.assertLess(many, 400)

    def test_division_by_numbers_either_way(self):
        seen = {}
        for by in (-5, -3, -2, -1, 1, 2, 3, 5):
            for word in ("div", "mod"):
                program = program_of("helper f n", "answers x", "gives 0 = 0", f"let x = n {word} {by}",
                                     f"claim {2 * by}*x != 7" if by > 0 else f"claim -{-2 * by}*x < 9", "end")
                known = self.debts_of(program)
                for number in range(-12, 13):
                    self.check_run(program, known, "f", [number], 10, seen)
        self.assertEqual(set(kind for kind, truth in seen), {"nought", "claim", "gives"})

    def test_a_sort_of_rows(self):
        program = program_of(
            "helper swap #a i j", "needs 0 <= i and i < #a", "needs 0 <= j and j < #a", "let x = a at i",
            "let y = a at j", "put a at i = y", "put a at j = x", "end",
            "helper sort #a", "answers n", "gives n = #a", "while n < #a", "holds 0 <= n and n <= #a", "falls #a - n",
            "let j = n", "while j > 0", "holds 0 <= j and j <= n", "falls j", "let x = a at j", "let y = a at j - 1",
            "if x < y", "call swap #a, j, j - 1", "end", "let j = j - 1", "end", "let n = n + 1", "end", "end")
        known, seen = self.debts_of(program), {}
        chance = random.Random(240)
        for length in range(8):
            row = [chance.randint(-4, 4) for _ in range(length)]
            self.assertEqual(outcome(program, "sort", [row]), ((length,), (tuple(sorted(row)),)))
            self.check_run(program, known, "sort", [row], 1000, seen)
        self.assertEqual(set(seen), {(kind, True) for kind in ("first", "bound", "again", "falls", "beyond", "needs",
                                                               "gives")})


if __name__ == "__main__":
    unittest.main()
