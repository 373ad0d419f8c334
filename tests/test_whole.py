"""What is promised over the whole program: texts are read, looked at, mended and run, and all of it fits together."""

import random
import unittest

from holdwright.debts import debts
from holdwright.desk import played
from holdwright.errors import TooMany
from holdwright.going import along
from holdwright.looking import let_by, looked, shows
from holdwright.mending import mended
from holdwright.papers import refutes
from holdwright.plain import owed
from holdwright.programs import written
from holdwright.reading import read
from holdwright.sensing import sensible
from support import DrawnSense, Walked, outcome, program_of, text_of
from support_looking import COUNT, GCD, SEARCH, SORT, fault_of, pruned, whiles_without_falls
from support_mending import DrawnLoops, first_word, rows_of

KINDS = (DrawnSense, DrawnLoops)


def known_debts(program):
    """Pairs of each debt and what looked tells of it, of all helpers whose debts aren't too many."""
    found = []
    for helper in program.helpers:
        try:
            found += zip(debts(program, helper.name), looked(program, helper.name))
        except TooMany:
            continue
    return found


class WordsTest(unittest.TestCase):
    def test_shown_ones_are_broken_by_no_numbers(self):
        chance = random.Random(200)
        tried = 0
        for _ in range(60):
            program = program_of(*chance.choice(KINDS)(chance).rows)
            for debt, (kind, at, word, shown) in known_debts(program):
                if word != "shown":
                    continue
                count = len([row for row in debt.ahead if row[0] == "any"])
                for _ in range(12):
                    things = along(debt.ahead, [chance.randint(-4, 6) for _ in range(count)])
                    if things is not None:
                        self.assertIs(debt.condition.holds(things), True)
                        tried += 1
        self.assertGreater(tried, 500)

    def test_nothing_is_shown_and_denied(self):
        chance = random.Random(201)
        seen = 0
        for _ in range(40):
            program = program_of(*chance.choice(KINDS)(chance).rows)
            known = known_debts(program)
            papers = [shown for debt, (kind, at, word, shown) in known if word == "shown"]
            for debt, (kind, at, word, shown) in known:
                if word == "denied":
                    things = along(debt.ahead, shown)
                    self.assertIs(debt.condition.holds(things), False)
                    for given in papers + [(), ((),)]:
                        self.assertIs(shows(debt, given), False)
                    case_of_it = [case for case in owed(debt) if all(one.value(
                        {f"?{place}": number for place, number in enumerate(shown)}) >= 0 for one in case)]
                    self.assertGreater(len(case_of_it), 0)
                    for paper in [paper for given in papers for paper in given]:
                        self.assertIs(refutes(case_of_it[0], paper), False)
                    seen += 1
        self.assertGreater(seen, 60)

    def test_denied_ones_that_a_run_comes_to(self):
        """Without loops, fetches and calls any numbers for the params are a run's: so a denied debt is a Fault."""
        chance = random.Random(202)
        seen = 0
        for _ in range(300):
            rows = ["helper f n m", "answers x"]
            for _ in range(chance.randint(1, 4)):
                one, other = chance.choice("nmxy"), chance.choice("nmxy")
                rows += chance.choice(([f"let x = {one} + 2*{other}"], [f"let y = {one} - {other} - 1"],
                                       [f"if {one} < {other} + 3", f"let x = {other}", "end"],
                                       [f"claim {one} != {other} + 4"], [f"row c = {one} + 9"],
                                       [f"let x = {one} div {other}"]))
                if "div" in rows[-1]:
                    rows[-1] = f"let x = {one} div 3"
            program = program_of(*rows, f"claim x + y < {chance.randint(0, 20)}", "end")
            for debt, (kind, at, word, shown) in known_debts(program):
                if word == "denied":
                    self.assertEqual(fault_of(program, "f", list(shown[:2])), (kind, at))
                    seen += 1
        self.assertGreater(seen, 200)


class LetByTest(unittest.TestCase):
    def check_runs(self, program, heads, given, chance):
        """No run breaks anything, nor would it have come to something that doesn't hold."""
        ends = whiles_without_falls(program) == 0
        for _ in range(4):
            name = chance.choice(heads)[0]
            handed = given(name)
            most = 20000 if ends else 300
            walked = Walked(program.told(), name, handed, most)
            found = outcome(program, name, handed, most)
            self.assertEqual(found, walked.outcome)
            self.assertTrue(all(event[5] for event in walked.events))
            if found[0] == "fault":
                own = [at for at, condition in program.named(name).needs]
                self.assertTrue(found[1] == "long" and not ends or found[1] == "needs" and found[2] in own, found)

    def test_from_a_text_to_its_runs(self):
        chance = random.Random(203)
        seen = 0
        for _ in range(60):
            drawn = chance.choice(KINDS)(chance)
            rows = pruned(drawn.rows)
            if rows is None:
                continue
            program = read(text_of(*rows))
            self.assertIsNone(sensible(program))
            self.assertIs(let_by(program), True)
            self.check_runs(program, drawn.heads, drawn.given, chance)
            better = mended(program)
            if let_by(better):
                self.check_runs(better, drawn.heads, drawn.given, chance)
                seen += 1
            self.assertEqual(read(written(better)).told(), better.told())
        self.assertGreater(seen, 30)

    def test_needs_alone_stand_between_a_run_and_its_end(self):
        program = program_of(*GCD)
        self.assertIs(let_by(program), True)
        for one in range(-3, 8):
            for other in range(-3, 8):
                found = outcome(program, "gcd", [one, other])
                self.assertEqual(found[0] == "fault", one <= 0 or other <= 0)
                if found[0] == "fault":
                    self.assertEqual(found, ("fault", "needs", 2))


class MendedTest(unittest.TestCase):
    def test_bare_programs_are_let_by_once_they_are_mended(self):
        bare = [row for row in COUNT if first_word(row) not in ("holds", "falls", "gives")]
        bare += ["helper total #a", "answers s", "while i < #a", "let x = a at i", "let s = s + x", "let i = i + 1",
                 "end", "end", "helper fill #a x", "let i = #a - 1", "while i >= 0", "put a at i = x",
                 "let i = i - 1", "end", "end"]
        program = program_of(*bare)
        self.assertIs(let_by(program), False)
        better = mended(program)
        self.assertEqual(whiles_without_falls(better), 0)
        words = {(answer[0], answer[2]) for debt, answer in known_debts(better)}
        self.assertEqual(words, {("first", "shown"), ("again", "shown"), ("bound", "shown"), ("falls", "shown"),
                                 ("beyond", "shown"), ("beyond", "denied")})
        self.assertEqual(outcome(better, "total", [[4, 5, -2]]), ((7,), ((4, 5, -2),)))
        self.assertEqual(outcome(better, "fill", [[4, 5, -2], 9]), ((), ((9, 9, 9),)))

    def test_mending_takes_no_word_away(self):
        """What is shown stays shown, unless it has become too hard, and what is denied may be shown."""
        chance = random.Random(204)
        better_ones = 0
        for _ in range(50):
            program = program_of(*chance.choice(KINDS)(chance).rows)
            found = mended(program)
            place, first, stands = 0, rows_of(program), {}
            for at, row in enumerate(rows_of(found)):
                if place < len(first) and row == first[place]:
                    stands[at] = place
                    place += 1
            words = [[], []]
            for which, each in enumerate((program, found)):
                for debt, (kind, at, word, shown) in known_debts(each):
                    if which == 0 or at in stands:
                        words[which].append((kind, at if which == 0 else stands[at], word))
            self.assertEqual([word[:2] for word in words[0]], [word[:2] for word in words[1]])
            for before, behind in zip(*words):
                self.assertFalse(before[2] == "shown" and behind[2] == "denied")
                better_ones += before[2] == "denied" and behind[2] == "shown"
        self.assertGreater(better_ones, 5)


class DeskTest(unittest.TestCase):
    def test_a_whole_text(self):
        text = text_of(*[row for row in SORT if first_word(row) not in ("holds", "falls")], "", "let by", "mend",
                       "run sort [2,3,1]", "look", "why gives 10", "run swap [1,2] 0 2")
        rows = played(text).splitlines()
        self.assertEqual(rows[:4], ["no", "done", "answers 3", "[1,2,3]"])
        self.assertEqual(rows[-2:], ["nothing", "fault needs 2"])
        self.assertEqual(played(text), played(text))

    def test_each_of_these_is_let_by(self):
        for rows in (SEARCH, SORT, GCD, COUNT):
            self.assertEqual(played(text_of(*rows, "", "let by", "mend", "let by")), "yes\ndone\nyes\n")


class KeptTest(unittest.TestCase):
    def test_programs_and_what_was_told_stay(self):
        chance = random.Random(205)
        for _ in range(15):
            program = program_of(*chance.choice(KINDS)(chance).rows)
            told, text = program.told(), written(program)
            known = known_debts(program)
            found = mended(program)
            found_told = found.told()
            mended(found)
            let_by(program)
            played(text + "\nmend\nlook\n")
            self.assertEqual((program.told(), written(program), found.told()), (told, text, found_told))
            self.assertEqual([(debt.kind, debt.at, answer[2]) for debt, answer in known],
                             [(debt.kind, debt.at, answer[2]) for debt, answer in known_debts(program)])


if __name__ == "__main__":
    unittest.main()
