"""What the looker tells of debts: papers that show them, numbers that deny them, or neither."""

import random
import unittest

from holdwright.debts import Debt, debts
from holdwright.errors import TooHard, TooMany
from holdwright.going import along
from holdwright.looking import let_by, looked, shows
from holdwright.papers import refutes
from holdwright.plain import owed
from holdwright.seeking import sought
from support import DrawnSense, anything, compare, hold, outcome, program_of, told_sum, total
from support_looking import (COUNT, GCD, SEARCH, SORT, fault_of, pruned, too_many_paths, whiles_without_falls,
                             words_of)
from support_papers import second_refutes
from test_seeking import plain_paper

# Each of these is a truth at the beginning of a helper f n, and no Sum in it is left out.
EIGHT = " and ".join(["n >= 0"] * 8)


def any_rows(debt):
    return [row for row in debt.ahead if row[0] == "any"]


def plain_answers(answers):
    """What looked tells, in a form that can be held against another."""
    return [(kind, at, word, tuple(plain_paper(paper) for paper in shown) if word == "shown" else shown)
            for kind, at, word, shown in answers]


class LookedTest(unittest.TestCase):
    def check(self, program, name):
        """What is told of the helper is right; tells it."""
        before = program.told()
        answers = looked(program, name)
        self.assertIs(type(answers), list)
        owing = debts(program, name)
        self.assertEqual([answer[:2] for answer in answers], [(debt.kind, debt.at) for debt in owing])
        for debt, answer in zip(owing, answers):
            self.assertIs(type(answer), tuple)
            kind, at, word, shown = answer
            {"shown": self.is_shown, "denied": self.is_denied, "open": self.is_open}[word](debt, shown)
        told = plain_answers(answers)
        answers.clear()
        self.assertEqual(plain_answers(looked(program, name)), told)
        self.assertEqual(program.told(), before)
        return told

    def is_shown(self, debt, papers):
        self.assertIs(type(papers), tuple)
        cases = owed(debt)
        self.assertEqual(len(papers), len(cases))
        for case, paper in zip(cases, papers):
            self.assertIs(refutes(case, paper), True)
            self.assertIs(second_refutes(case, paper), True)
        self.assertIs(shows(debt, papers), True)

    def is_denied(self, debt, numbers):
        self.assertIs(type(numbers), tuple)
        self.assertTrue(all(type(number) is int for number in numbers))
        self.assertEqual(len(numbers), len(any_rows(debt)))
        things = along(debt.ahead, numbers)
        self.assertIsNotNone(things)
        self.assertIs(debt.condition.holds(things), False)

    def is_open(self, debt, nothing):
        self.assertIsNone(nothing)
        try:
            cases = owed(debt)
        except TooMany:
            return
        words = []
        for case in cases:
            try:
                words.append(sought(case)[0])
            except TooHard:
                words.append("refused")
        self.assertIn("refused", words)
        self.assertNotIn("some", words)

    def words(self, *rows):
        """What is told of the last helper, papers and numbers left out."""
        program = program_of(*rows)
        return [answer[:3] for answer in self.check(program, program.helpers[-1].name)]


class KindsTest(LookedTest):
    def test_claim(self):
        self.assertEqual(self.words("helper f n", "needs n > 2", "claim n > 1", "claim n > 3", "claim n > 3", "end"),
                         [("claim", 2, "shown"), ("claim", 3, "denied"), ("claim", 4, "shown")])

    def test_nought(self):
        self.assertEqual(self.words("helper f n m", "needs n != 0", "let x = m div n", "let x = m mod x",
                                    "let x = m div 2", "let x = m div 0", "end"),
                         [("nought", 2, "shown"), ("nought", 3, "denied"), ("nought", 4, "shown"),
                          ("nought", 5, "denied")])

    def test_beyond(self):
        self.assertEqual(self.words("helper f #a i", "needs 0 <= i", "let x = a at i", "put a at i - 1 = 4",
                                    "if i > 0", "put a at i - 1 = x", "end", "let x = a at -1", "end"),
                         [("beyond", 2, "denied"), ("beyond", 3, "denied"), ("beyond", 5, "shown"),
                          ("beyond", 7, "denied"), ("beyond", 7, "shown")])

    def test_short(self):
        self.assertEqual(self.words("helper f n", "row c = n + 1", "row c = n + 1", "row d = #c - 1", "row d = #c",
                                    "let x = c at n", "end"),
                         [("short", 1, "denied"), ("short", 2, "shown"), ("short", 3, "denied"), ("short", 4, "shown"),
                          ("beyond", 5, "shown")])

    def test_needs_and_gives(self):
        half = ["helper half n", "answers h", "needs n >= 0", "needs n < 100", "gives 2*h <= n",
                "gives n < 2*h + 1", "let h = n div 2", "end"]
        self.assertEqual(self.words(*half), [("nought", 6, "shown"), ("gives", 4, "shown"), ("gives", 5, "denied")])
        self.assertEqual(self.words(*half, "helper g m", "needs m >= 0", "if m < 50", "call x = half 2*m",
                                    "claim x = m", "end", "call y = half m - 1", "end"),
                         [("needs", 11, "shown"), ("claim", 12, "shown"), ("needs", 14, "denied"),
                          ("needs", 14, "denied")])

    def test_loops(self):
        rows = ["helper f n", "while i < n", "holds 0 <= i", "holds i <= n", "holds i >= 1", "falls n - i",
                "let i = i + 1", "end", "end"]
        self.assertEqual(self.words(*rows),
                         [("first", 2, "shown"), ("first", 3, "denied"), ("first", 4, "denied"), ("bound", 5, "shown"),
                          ("again", 2, "shown"), ("again", 3, "shown"), ("again", 4, "shown"), ("falls", 5, "shown")])
        rows = ["helper f n", "while i != n", "holds i <= 5", "falls n - i", "let i = i + n", "end", "end"]
        self.assertEqual(self.words(*rows), [("first", 2, "shown"), ("bound", 3, "denied"), ("again", 2, "denied"),
                                             ("falls", 3, "denied")])

    def test_nothing_is_owed(self):
        self.assertEqual(self.words("helper f n", "let x = n", "if x > n", "let x = 0", "end", "end"), [])

    def test_a_way_that_is_never_gone(self):
        self.assertEqual(self.words("helper f n", "if n > n", "claim 0 = 1", "end", "if n > 0", "if n < 0",
                                    "claim 0 = 1", "end", "end", "claim 0 = 1", "end")[:3],
                         [("claim", 2, "shown"), ("claim", 6, "shown"), ("claim", 6, "shown")])

    def test_numbers_for_each_any_row(self):
        program = program_of("helper f n #a m", "let x = a at 0", "let y = n + m div 3", "claim m < 7", "end")
        beyond, nought, claim = self.check(program, "f")
        self.assertEqual((beyond[2], len(beyond[3])), ("denied", 3))
        self.assertEqual(beyond[3][1], 0)
        self.assertEqual((claim[2], len(claim[3])), ("denied", 5))
        self.assertGreaterEqual(claim[3][2], 7)
        self.assertEqual(self.check(program_of("helper f", "claim 0 = 1", "end"), "f"), [("claim", 1, "denied", ())])

    def test_the_papers_of_each_case(self):
        program = program_of("helper f n", "needs n = 3", "claim n != 4", "claim n = 3", "claim 0 = 0", "end")
        self.assertEqual([len(answer[3]) for answer in self.check(program, "f")], [1, 4, 0])

    def test_programs_of_which_all_is_shown(self):
        for rows in (SEARCH, SORT, GCD, COUNT):
            program = program_of(*rows)
            for helper in program.helpers:
                self.assertEqual({answer[2] for answer in self.check(program, helper.name)}, {"shown"})

    def test_whole_numbers_are_looked_for(self):
        self.assertEqual(self.words("helper f n", "let a = n mod 4", "let b = n mod 2", "claim a != 2*b + 2 or b = 0",
                                    "claim a - b != 1", "claim a != b", "end")[2:],
                         [("claim", 3, "shown"), ("claim", 4, "shown"), ("claim", 5, "denied")])


class OpenTest(LookedTest):
    def test_too_many_cases(self):
        # Six unequal ones make 64 cases, one more makes too many.
        unequal = [f"claim n != {number}" for number in range(3, 9)]
        found = self.words("helper f n", *unequal, "claim n != 30", "claim n != 31", "end")
        self.assertEqual([word for kind, at, word in found], ["denied"] * 7 + ["open"])

    def test_too_many_sums(self):
        # So many Sums: one for each comparison ahead, and one for what is claimed.
        ahead = ["helper f n", *["claim " + EIGHT] * 9, "claim " + " and ".join(["n >= 0"] * 7)]
        self.assertEqual(self.words(*ahead, "claim n > -1", "end")[1:], [("claim", at, "shown") for at in range(2, 12)])
        found = self.words(*ahead, "claim n > -1", "claim n > -1", "claim n > -1", "end")
        self.assertEqual(found[-3:], [("claim", 11, "shown"), ("claim", 12, "open"), ("claim", 13, "open")])
        found = self.words(*ahead, "claim n > 1", "claim n > 2", "claim n > 3", "end")
        self.assertEqual(found[-3:], [("claim", 11, "denied"), ("claim", 12, "open"), ("claim", 13, "open")])

    def test_one_case_too_hard_and_another_met(self):
        # 75 Sums ahead: with the eight of one side there are too many, with the one of the other there aren't.
        ahead = ["helper f n", *["claim " + EIGHT] * 9, "claim n >= 0 and n >= 0 and n >= 0"]
        hard = f"not ({EIGHT.replace('>=', '<')})"
        self.assertEqual(self.words(*ahead, f"claim {hard} and n > 1", "end")[-1], ("claim", 11, "denied"))
        self.assertEqual(self.words(*ahead, f"claim n > 1 and {hard}", "end")[-1], ("claim", 11, "denied"))
        self.assertEqual(self.words(*ahead, f"claim {hard} and n > -1", "end")[-1], ("claim", 11, "open"))
        self.assertEqual(self.words(*ahead, f"claim n > -1 and {hard}", "end")[-1], ("claim", 11, "open"))
        fewer = ahead[:1] + ahead[2:]
        self.assertEqual(self.words(*fewer, f"claim n > -1 and {hard}", "end")[-1], ("claim", 10, "shown"))

    def test_too_many_debts(self):
        claims = ["claim 0 = 0"] * 100
        self.assertEqual(len(self.words("helper f", *claims, "end")), 100)
        for rows in (["helper f", *claims, "claim 0 = 0", "end"], too_many_paths("f")):
            with self.assertRaises(TooMany):
                looked(program_of(*rows), "f")

    def test_another_helpers_debts_are_too_many(self):
        program = program_of(*too_many_paths("g"), "helper f n", "call g n", "claim n = n", "end")
        self.assertEqual([answer[:3] for answer in self.check(program, "f")], [("claim", 19, "shown")])


class DrawnTest(LookedTest):
    def test_drawn_programs(self):
        chance = random.Random(300)
        seen = {}
        for _ in range(150):
            program = program_of(*DrawnSense(chance).rows)
            for helper in program.helpers:
                try:
                    owing = debts(program, helper.name)
                except TooMany:
                    self.assertRaises(TooMany, looked, program, helper.name)
                    continue
                self.assertEqual(len(owing), len(self.check(program, helper.name)))
                for answer in looked(program, helper.name):
                    seen[answer[2]] = seen.get(answer[2], 0) + 1
        self.assertGreater(min(seen["shown"], seen["denied"]), 100)
        self.assertGreater(seen["open"], 0)


class ShowsTest(unittest.TestCase):
    def two_cases(self, ahead=tuple):
        """A debt with two cases, of which none is met, that are refuted by different papers, and these."""
        rows = ahead([anything("x"), hold("x", ">=", 5), anything("y"), hold("y", "<=", "x"), hold("y", "=", 5),
                      hold("x", "<=", 5)])
        debt = Debt("claim", 3, rows, compare("y", "=", 5))
        papers = tuple(sought(case)[1] for case in owed(debt))
        self.assertEqual(len(papers), 2)
        self.assertNotEqual(plain_paper(papers[0]), plain_paper(papers[1]))
        return debt, papers

    def test_the_right_papers(self):
        for ahead in (tuple, list):
            debt, papers = self.two_cases(ahead)
            self.assertIs(shows(debt, papers), True)
            self.assertIs(shows(debt, list(papers)), True)
            self.assertIs(shows(debt, [list(paper) for paper in papers]), True)

    def test_wrong_papers(self):
        debt, papers = self.two_cases()
        one, other = papers
        for wrong in ((), (one,), (other,), (one, other, one), (one, other, ()), (other, one), (one, one),
                      (one[:-1], other), (one, other[:-1]), ((), other), (one, ()), (None, other), (one, 3),
                      (one, True), ("add", "add"), (one, "none"), one, (papers,), (one, (one,)),
                      (one, total(-1)), (one, (total(-1),))):
            self.assertIs(shows(debt, wrong), False, wrong)
            self.assertIs(shows(debt, list(wrong)), False, wrong)

    def test_what_is_no_row_of_papers(self):
        debt, papers = self.two_cases()
        for wrong in (None, 3, True, "ab", papers[0][0], total(-1)):
            self.assertIs(shows(debt, wrong), False)

    def test_nothing_owed(self):
        debt = Debt("claim", 1, (anything("x"), hold("x", "<", "x")), compare("x", "=", 4))
        self.assertEqual(owed(debt), [])
        self.assertIs(shows(debt, ()), True)
        self.assertIs(shows(debt, []), True)
        self.assertIs(shows(debt, ((),)), False)

    def test_a_denied_debt(self):
        debt = Debt("claim", 1, (anything("x"),), compare("x", "!=", 4))
        for papers in ((), ((),), ((("add", ((1, 0), (1, 1))),),), ((("cut", 0, 1),),)):
            self.assertIs(shows(debt, papers), False)

    def test_another_debts_papers(self):
        program = program_of(*SORT)
        for name in ("swap", "sort"):
            owing = debts(program, name)
            papers = [answer[3] for answer in looked(program, name)]
            for place, debt in enumerate(owing):
                for other, given in enumerate(papers):
                    truth = len(given) == len(owed(debt)) and all(
                        second_refutes(case, paper) for case, paper in zip(owed(debt), given))
                    self.assertIs(shows(debt, given), truth)
                    self.assertTrue(truth or place != other)
        self.assertIs(shows(owing[0], papers[-1]), False)
        self.assertIs(shows(owing[-1], papers[0]), False)

    def test_where_owed_is_refused(self):
        unequal = [hold("x", "!=", number) for number in range(7)]
        debt = Debt("claim", 1, (anything("x"), hold("x", "<", 0), *unequal), compare("x", "<", 0))
        self.assertRaises(TooMany, owed, debt)
        for papers in ((), ((),), [()] * 128):
            self.assertIs(shows(debt, papers), False)

    def test_drawn_papers(self):
        chance = random.Random(301)
        seen = {True: 0, False: 0}
        while min(seen.values()) < 100:
            program = program_of(*DrawnSense(chance).rows)
            name = program.helpers[0].name
            try:
                answers = looked(program, name)
            except TooMany:
                continue
            known = [answer[3] for answer in answers if answer[2] == "shown" and answer[3]]
            for debt, answer in zip(debts(program, name), answers):
                if answer[2] == "open" or not known:
                    continue
                papers = list(chance.choice(known))
                place = chance.randrange(len(papers))
                papers[place] = chance.choice((papers[place], papers[place][1:], papers[place] * 2))
                truth = len(papers) == len(owed(debt)) and all(map(second_refutes, owed(debt), papers))
                self.assertIs(shows(debt, papers), truth)
                seen[truth] += 1

    def test_what_is_handed_in_stays(self):
        debt, papers = self.two_cases(list)
        rows, given = list(debt.ahead), list(papers)
        self.assertIs(shows(debt, given), True)
        self.assertEqual((rows, given), (debt.ahead, list(papers)))
        given.pop()
        self.assertIs(shows(debt, given), False)
        self.assertIs(shows(debt, papers), True)


class LetByTest(unittest.TestCase):
    def test_all_is_shown(self):
        for rows in (SEARCH, SORT, GCD, COUNT, ("helper f", "end"), SEARCH + SORT + GCD + COUNT):
            self.assertIs(let_by(program_of(*rows)), True)

    def test_something_isnt(self):
        for rows, row, worse, kind in (
                (SEARCH, "let lo = mid + 1", "let lo = mid", "falls"), (SORT, "let j = n", "let j = n + 1", "first"),
                (GCD, "needs a > 0 and b > 0", "needs a > 0", "first"), (COUNT, "let s = s + 2", "let s = s", "again")):
            changed = [worse if each == row else each for each in rows]
            self.assertNotEqual(changed, list(rows))
            program = program_of(*changed)
            denied = [answer[0] for answer in looked(program, program.helpers[-1].name) if answer[2] != "shown"]
            self.assertIn(kind, denied)
            self.assertIs(let_by(program), False)

    def test_any_helper_counts(self):
        bad = ("helper bad n", "claim n > 0", "end")
        self.assertIs(let_by(program_of(*bad, *COUNT)), False)
        self.assertIs(let_by(program_of(*COUNT, *bad)), False)
        self.assertIs(let_by(program_of(*COUNT, *bad, *GCD)), False)

    def test_open_ones_arent_let_by(self):
        unequal = ["claim n != 0 or n = 0"] * 7
        self.assertIs(let_by(program_of("helper f n", *unequal[:3], "end")), True)
        self.assertEqual(words_of(program_of("helper f n", *unequal, "end"))[7], ["open"])
        self.assertIs(let_by(program_of("helper f n", *unequal, "end")), False)

    def test_too_many_debts(self):
        self.assertIs(let_by(program_of(*too_many_paths("f"))), False)
        self.assertIs(let_by(program_of(*COUNT, *too_many_paths("f"))), False)
        self.assertIs(let_by(program_of(*too_many_paths("f"), *COUNT)), False)
        self.assertIs(let_by(program_of("helper f", *["claim 0 = 0"] * 100, "end")), True)
        self.assertIs(let_by(program_of("helper f", *["claim 0 = 0"] * 101, "end")), False)

    def test_as_the_words_are(self):
        chance = random.Random(310)
        seen = {True: 0, False: 0}
        for _ in range(120):
            rows = DrawnSense(chance).rows
            if chance.random() < 0.5:
                rows = pruned(rows) or rows
            words = words_of(program_of(*rows))
            truth = words is not None and all(set(each) == {"shown"} for each in words.values())
            self.assertIs(let_by(program_of(*rows)), truth)
            seen[truth] += 1
        self.assertGreater(min(seen.values()), 30)


class NoFaultTest(unittest.TestCase):
    def test_drawn_programs(self):
        """A program that is let by comes to no Fault but "long" where the needs hold, and to its end with falls."""
        chance = random.Random(311)
        seen = {"ends": 0, "long": 0, "needs": 0}
        for _ in range(250):
            drawn = DrawnSense(chance)
            rows = pruned(drawn.rows)
            if rows is None:
                continue
            program = program_of(*rows)
            self.assertIs(let_by(program), True)
            ends = whiles_without_falls(program) == 0
            for _ in range(5):
                name = chance.choice(drawn.heads)[0]
                fault = fault_of(program, name, drawn.given(name), 100000 if ends else 500)
                if fault is None:
                    seen["ends"] += 1
                elif fault[0] == "needs":
                    self.assertIn(fault[1], [at for at, condition in program.named(name).needs])
                    seen["needs"] += 1
                else:
                    self.assertEqual(fault[0], "long")
                    self.assertIs(ends, False)
                    seen["long"] += 1
        self.assertGreater(min(seen.values()), 40, seen)

    def test_by_hand(self):
        chance = random.Random(312)
        program = program_of(*SEARCH, *SORT, *GCD, *COUNT)
        self.assertIs(let_by(program), True)
        for _ in range(60):
            row = sorted(chance.randint(-9, 9) for _ in range(chance.randint(0, 9)))
            number = chance.randint(-12, 12)
            (place,), (behind,) = outcome(program, "find", [row, number])
            self.assertEqual((place, behind), (len([each for each in row if each < number]), tuple(row)))
            chance.shuffle(row)
            self.assertEqual(outcome(program, "sort", [row]), ((len(row),), (tuple(sorted(row)),)))
            self.assertEqual(outcome(program, "count", [number + 12]), ((2 * number + 24,), ()))
            one, other = chance.randint(1, 60), chance.randint(1, 60)
            (divisor,), rows = outcome(program, "gcd", [one, other])
            self.assertEqual(divisor, max(k for k in range(1, 61) if one % k == 0 and other % k == 0))


class SoundTest(unittest.TestCase):
    """A run that breaks something has a debt of that kind and place that isn't shown."""

    def test_faults_of_runs(self):
        chance = random.Random(313)
        seen = {}
        for _ in range(400):
            drawn = DrawnSense(chance)
            program = program_of(*drawn.rows)
            words = words_of(program)
            if words is None:
                continue
            for _ in range(4):
                name = chance.choice(drawn.heads)[0]
                fault = fault_of(program, name, drawn.given(name), 300)
                if fault is None or fault[0] == "long":
                    continue
                if fault[0] == "needs" and fault[1] in [at for at, condition in program.named(name).needs]:
                    continue
                self.assertTrue(set(words[fault[1]]) & {"denied", "open"}, fault)
                seen[fault[0]] = seen.get(fault[0], 0) + 1
        self.assertEqual(len(seen), 10, seen)


class KeptTest(unittest.TestCase):
    def test_what_was_told_stays(self):
        program = program_of(*COUNT)
        owing = debts(program, "count")
        before = [told_sum(one) for debt in owing for case in owed(debt) for one in case]
        first = looked(program, "count")
        told = plain_answers(first)
        looked(program_of(*GCD), "gcd")
        looked(program, "count").pop()
        self.assertEqual(plain_answers(first), told)
        self.assertEqual([told_sum(one) for debt in owing for case in owed(debt) for one in case], before)


if __name__ == "__main__":
    unittest.main()
