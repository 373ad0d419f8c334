"""The desk: what each row that is asked is answered by, and how texts are refused."""

import random
import unittest

from holdwright.desk import played
from holdwright.errors import Fault, NoRun, NoSense, NoText, TooHard, TooMany, WritError
from holdwright.going import along
from holdwright.debts import debts
from holdwright.looking import let_by, looked
from holdwright.mending import mended
from holdwright.programs import written
from holdwright.reading import read
from holdwright.sensing import sensible
from support import DrawnSense, outcome, program_of, refused_at, text_of
from support_looking import COUNT, SEARCH, SORT, too_many_paths

PLAIN = ("helper f n", "answers x", "needs n > 0", "claim n < 9", "let x = 2*n", "end")

ROWS = ("helper two #a n #b", "answers x y", "put a at 0 = n", "let x = b at 0", "let y = #a", "end",
        "helper none", "end",
        "helper turn #a", "while i < #a", "let x = a at i", "put a at i = -x", "let i = i + 1", "end", "end")


def desk(rows, *asked):
    """The rows that answer those asked of the program's rows."""
    found = played(text_of(*rows, "", *asked))
    assert type(found) is str and (found == "" or found.endswith("\n"))
    return found.split("\n")[:-1]


class LookTest(unittest.TestCase):
    def test_by_hand(self):
        self.assertEqual(desk(PLAIN, "look"), ["f claim 3 denied"])
        self.assertEqual(desk(COUNT, "look"), ["count first 5 shown", "count bound 6 shown", "count again 5 shown",
                                               "count falls 6 shown", "count gives 3 shown"])
        self.assertEqual(desk(ROWS, "look"), ["two beyond 2 denied", "two beyond 3 denied", "turn beyond 10 denied",
                                              "turn beyond 11 shown"])

    def test_an_open_one(self):
        rows = ["helper f n", *["claim n != 0 or n = 0"] * 7, "end"]
        self.assertEqual(desk(rows, "look")[-1], "f claim 7 open")

    def test_nothing_owed(self):
        self.assertEqual(desk(["helper f", "end"], "look"), [])
        self.assertEqual(desk(["helper f", "end"], "look", "let by", "look"), ["yes"])

    def test_too_many(self):
        rows = [*PLAIN, *too_many_paths("g"), "helper h", "claim 0 = 1", "end"]
        self.assertEqual(desk(rows, "look"), ["f claim 3 denied", "g too many", "h claim 24 denied"])

    def test_drawn_programs(self):
        chance = random.Random(340)
        for _ in range(25):
            rows = DrawnSense(chance).rows
            program = program_of(*rows)
            expected = []
            for helper in program.helpers:
                try:
                    expected += [f"{helper.name} {kind} {at} {word}" for kind, at, word, shown
                                 in looked(program, helper.name)]
                except TooMany:
                    expected.append(helper.name + " too many")
            self.assertEqual(desk(rows, "look", "let by"), expected + ["yes" if let_by(program) else "no"])


class LetByTest(unittest.TestCase):
    def test_by_hand(self):
        for rows in (COUNT, SORT, SEARCH, ["helper f", "end"]):
            self.assertEqual(desk(rows, "let by"), ["yes"])
        for rows in (PLAIN, ROWS, too_many_paths("f"), [*COUNT, *PLAIN]):
            self.assertEqual(desk(rows, "let by"), ["no"])


class RunTest(unittest.TestCase):
    def test_answers(self):
        self.assertEqual(desk(PLAIN, "run f 4", "run f 1", "run f 8"), ["answers 8", "answers 2", "answers 16"])
        self.assertEqual(desk(ROWS, "run none"), ["answers"])
        self.assertEqual(desk(ROWS, "run two [1,-2,3] -7 [5]"), ["answers 5 3", "[-7,-2,3]", "[5]"])
        self.assertEqual(desk(ROWS, "run turn [1,-2,3,0]", "run turn []"), ["answers", "[-1,2,-3,0]", "answers", "[]"])
        self.assertEqual(desk(SORT, "run sort [3,1,2]"), ["answers 3", "[1,2,3]"])

    def test_faults(self):
        self.assertEqual(desk(PLAIN, "run f 0", "run f -4", "run f 9"), ["fault needs 2"] * 2 + ["fault claim 3"])
        self.assertEqual(desk(ROWS, "run two [] 1 [2]", "run two [1] 1 []"), ["fault beyond 2", "fault beyond 3"])
        self.assertEqual(desk(["helper f n", "while 0 = 0", "let x = 1", "end", "end"], "run f 1"), ["fault long 1"])
        kinds = ["helper g n", "needs n > 5", "end", "helper f n", "gives n != 7", "if n = 1", "let x = n div 0", "end",
                 "if n = 2", "row c = -1", "end", "if n = 3", "call g n", "end", "if n = 4", "while n > 0",
                 "holds n < 0", "end", "end", "end"]
        self.assertEqual(desk(kinds, *[f"run f {number}" for number in (1, 2, 3, 4, 7, 8)]),
                         ["fault nought 6", "fault short 9", "fault needs 12", "fault first 16", "fault gives 4",
                          "answers"])
        loops = ["helper f n", "while i < 3", "holds i < n", "falls n - 5", "let i = i + 1", "end", "end"]
        self.assertEqual(desk(loops, "run f 4", "run f 5", "run f 1"), ["fault bound 3", "fault falls 3",
                                                                       "fault bound 3"])
        loops[3] = "falls 3 - i"
        self.assertEqual(desk(loops, "run f 2", "run f 0", "run f 4"), ["fault again 2", "fault first 2", "answers"])

    def test_a_thousand_turns(self):
        rows = ["helper f n", "answers i", "while i < n", "let i = i + 1", "end", "end"]
        self.assertEqual(desk(rows, "run f 499", "run f 500"), ["answers 499", "fault long 2"])
        rows.insert(2, "let x = 0")
        self.assertEqual(desk(rows, "run f 499", "run f 500"), ["answers 499", "fault long 4"])
        rows.insert(2, "let x = 0")
        self.assertEqual(desk(rows, "run f 499"), ["fault long 4"])

    def test_numbers(self):
        rows = ["helper f n", "answers x", "let x = n", "end"]
        great = "9" * 300
        for given, told in (("0", "0"), ("-0", "0"), ("007", "7"), ("-00012", "-12"), ("000", "0"), (great, great),
                            ("-" + great, "-" + great), ("0" * 6000 + "3", "3")):
            self.assertEqual(desk(rows, "run f " + given), ["answers " + told])
        rows = ["helper f #a", "end"]
        for given, told in (("[]", "[]"), ("[0]", "[0]"), ("[-0,007,-03]", "[0,7,-3]"), (f"[{great}]", f"[{great}]")):
            self.assertEqual(desk(rows, "run f " + given), ["answers", told])

    def test_of_another_form(self):
        for row in ("run", "run ", "run f ", "run f  4", "run  f 4", " run f 4", "run f 4 ", "run f +4", "run f --4",
                    "run f -", "run f 4-", "run f 1.5", "run f 1,2", "run f n", "run f 0x4", "run f 1_0", "run f ]",
                    "run f [", "run f True", "run f, 4", "run f [4", "run f 4]", "runf 4", "Run f 4", "run f 4\t",
                    "run f 4,", "run f (4)", "run f -[4]", "run f 1e3", "run f = 4"):
            self.assertEqual(desk(PLAIN, row), ["refused"], row)
        for given in ("[", "]", "[1", "1]", "[,]", "[1,]", "[,1]", "[1,,2]", "[+1]", "[1, 2]", "[ ]", "[1.5]", "[[1]]",
                      "[[]]", "[-]", "[a]", "()", "[]]", "[[]", "[1][2]", "[1;2]", "-[]", "[-1-2]", "[--1]",
                      "41]", "[41", "412", "(41)", "41", "[41)", "{41}"):
            self.assertEqual(desk(["helper f #a", "end"], "run f " + given), ["refused"], given)

    def test_refused_by_the_run(self):
        for row in ("run g 4", "run", "run f", "run f 4 5", "run f []", "run f [4]", "run F 4", "run helper 4",
                    "run #f 4"):
            self.assertEqual(desk(PLAIN, row), ["refused"], row)
        for row in ("run two [] 1", "run two 1 1 []", "run two [] [] []", "run two [] 1 1", "run two [] 1 [] []",
                    "run none 1", "run none []", "run turn 0"):
            self.assertEqual(desk(ROWS, row), ["refused"], row)

    def test_drawn_programs(self):
        chance = random.Random(341)
        seen = {"answers": 0, "fault": 0}
        for _ in range(100):
            drawn = DrawnSense(chance)
            name = chance.choice(drawn.heads)[0]
            given = drawn.given(name)
            words = [str(thing).replace(" ", "") for thing in given]
            found = desk(drawn.rows, " ".join(["run", name, *words]))
            told = outcome(program_of(*drawn.rows), name, given)
            if told[0] == "fault":
                self.assertEqual(found, [f"fault {told[1]} {told[2]}"])
            else:
                self.assertEqual(found, [" ".join(["answers", *map(str, told[0])])]
                                 + [str(list(row)).replace(" ", "") for row in told[1]])
            seen[found[0].split(" ")[0]] += 1
        self.assertGreater(min(seen.values()), 10)


class MendTest(unittest.TestCase):
    rows = ["helper up n", "answers i", "needs 0 <= n", "gives i = n", "while i < n", "let i = i + 1", "end", "end"]
    new = rows[:5] + ["holds i <= n", "holds 0 <= i", "falls -i + n"] + rows[5:]

    def test_what_is_told_behind_it(self):
        asked = ("text", "let by", "look", "why gives 3", "mend", "text", "let by", "why gives 3")
        self.assertEqual(desk(self.rows, *asked),
                         [*self.rows, "no", "up gives 3 denied", "up 0 1", "done", *self.new, "yes", "nothing"])
        self.assertEqual(desk(self.rows, "mend", "look")[1:],
                         [f"up {what} shown" for what in ("first 5", "first 6", "bound 7", "again 5", "again 6",
                                                         "falls 7", "gives 3")])
        self.assertEqual(desk(self.rows, "run up 3", "mend", "run up 3", "run up -1", "run up 500"),
                         ["answers 3", "done", "answers 3", "fault needs 2", "fault long 4"])

    def test_where_rows_stand_behind_it(self):
        rows = self.rows[:-1] + ["claim n < 4", "end"]
        self.assertEqual(desk(rows, "run up 5", "why claim 7", "mend", "run up 5", "why claim 7", "why claim 10"),
                         ["fault claim 7", "up 4 4", "done", "fault claim 10", "nothing", "up 4 4"])

    def test_twice(self):
        self.assertEqual(desk(self.rows, "mend", "mend", "text"), ["done", "done", *self.new])

    def test_nothing_is_kept_from_one_text_to_the_next(self):
        for _ in range(2):
            self.assertEqual(desk(self.rows, "let by", "mend", "let by"), ["no", "done", "yes"])

    def test_drawn_programs(self):
        chance = random.Random(342)
        for _ in range(12):
            rows = DrawnSense(chance).rows
            found = mended(program_of(*rows))
            self.assertEqual(desk(rows, "mend", "text", "let by"),
                             ["done", *written(found).splitlines(), "yes" if let_by(found) else "no"])


class TextTest(unittest.TestCase):
    def test_as_it_is_written(self):
        self.assertEqual(desk(PLAIN, "text"), list(PLAIN))
        rows = ["helper f n", "let x = 3 + n - 1 + 0*n", "claim 2 > x - x", "end"]
        self.assertEqual(desk(rows, "text"), ["helper f n", "let x = n + 2", "claim 2 > 0", "end"])

    def test_read_again(self):
        chance = random.Random(343)
        for _ in range(20):
            rows = DrawnSense(chance).rows
            text = desk(rows, "text")
            self.assertEqual(text, written(program_of(*rows)).splitlines())
            self.assertEqual(desk(text, "text"), text)


class WhyTest(unittest.TestCase):
    def test_denied(self):
        self.assertEqual(desk(PLAIN, "why claim 3"), ["f 9"])
        self.assertEqual(desk(["helper f", "claim 0 = 1", "end"], "why claim 1"), ["f"])
        self.assertEqual(desk(["helper f n", "needs n < 0", "claim n < -5", "end"], "why claim 2"), ["f -1"])

    def test_numbers_that_break_it(self):
        chance = random.Random(344)
        seen = 0
        for _ in range(40):
            rows = DrawnSense(chance).rows
            program = program_of(*rows)
            for helper in program.helpers:
                try:
                    answers = looked(program, helper.name)
                except TooMany:
                    continue
                denied = [answer for answer in answers if answer[2] == "denied"]
                for kind, at in sorted({answer[:2] for answer in denied})[:4]:
                    first = [answer[3] for answer in denied if answer[:2] == (kind, at)][0]
                    [found] = desk(rows, f"why {kind} {at}")
                    self.assertEqual(found, " ".join([helper.name, *map(str, first)]))
                    numbers = [int(word) for word in found.split(" ")[1:]]
                    things = [(debt, along(debt.ahead, numbers)) for debt in debts(program, helper.name)
                              if (debt.kind, debt.at) == (kind, at)]
                    self.assertTrue(any(met is not None and not debt.condition.holds(met) for debt, met in things))
                    seen += 1
        self.assertGreater(seen, 30)

    def test_the_first_that_is_denied(self):
        # The claim is owed on two ways, on the first of which it is shown.
        rows = ["helper f n", "if n > 3", "let x = 1", "end", "claim x = 1", "end"]
        self.assertEqual(desk(rows, "look", "why claim 4"), ["f claim 4 shown", "f claim 4 denied", "f 0"])
        rows = ["helper f n", "if n > 3", "let x = 1", "end", "claim n = 4 or n = 2", "end"]
        self.assertEqual(desk(rows, "look", "why claim 4")[:2], ["f claim 4 denied"] * 2)
        self.assertEqual(desk(rows, "why claim 4"), ["f 5"])

    def test_nothing(self):
        for row in ("why claim 4", "why claim 2", "why gives 3", "why nothing 3", "why claim -3", "why claim 30",
                    "why 3 3", "why # 3", "why needs 2", "why long 3", "why why 3", "why claim " + "9" * 50):
            self.assertEqual(desk(PLAIN, row), ["nothing"], row)
        self.assertEqual(desk(COUNT, "why first 5", "why falls 6"), ["nothing"] * 2)

    def test_an_open_one(self):
        rows = ["helper f n", *["claim n != 0 or n = 0"] * 7, "end"]
        self.assertEqual(desk(rows, "why claim 7"), ["nothing"])

    def test_helpers_whose_debts_are_too_many(self):
        many = too_many_paths("g")
        many.insert(1, "claim n = 3")
        self.assertEqual(desk(many, "why claim 1"), ["nothing"])
        self.assertEqual(desk([*many, *PLAIN], f"why claim {len(many) + 3}", "why claim 1"), ["f 9", "nothing"])

    def test_places_are_numbers(self):
        for place in ("3", "03", "0003"):
            self.assertEqual(desk(PLAIN, "why claim " + place), ["f 9"])
        self.assertEqual(desk(["helper f", "end"], "why claim -0"), ["nothing"])

    def test_of_another_form(self):
        for row in ("why", "why claim", "why claim x", "why claim 3 3", "why  3", "why claim  3", "why claim 3 ",
                    " why claim 3", "why claim +3", "why claim -", "why claim 3.0", "why claim [3]", "why claim []",
                    "why 3", "why claim ", "Why claim 3", "why claim --3"):
            self.assertEqual(desk(PLAIN, row), ["refused"], row)


class OtherRowsTest(unittest.TestCase):
    def test_refused(self):
        for row in ("", " ", "look ", " look", "look f", "Look", "looked", "let", "let  by", "let by ", "letby",
                    "mend ", "mend f", "mended", "text ", "text f", "texts", "done", "yes", "refused", "helper f",
                    "end", "a b c",
                    "#", "read", "\t", "let by f"):
            self.assertEqual(desk(PLAIN, row), ["refused"], row)

    def test_behind_a_refused_one(self):
        self.assertEqual(desk(PLAIN, "", "look", "", "run f", "run f 2", "what", "let by"),
                         ["refused", "f claim 3 denied", "refused", "refused", "answers 4", "refused", "no"])

    def test_no_rows(self):
        self.assertEqual(played(text_of(*PLAIN, "")), "")
        self.assertEqual(played(text_of(*PLAIN, "", "")), "refused\n")
        self.assertEqual(played(text_of(*PLAIN, "", "let by")), "no\n")


class RefusedTest(unittest.TestCase):
    def at_of(self, text):
        with self.assertRaises(NoText) as taken:
            played(text)
        self.assertIs(type(taken.exception), NoText)
        self.assertIs(type(taken.exception.at), int)
        return taken.exception.at

    def why_of(self, *rows):
        with self.assertRaises(NoSense) as taken:
            played(text_of(*rows))
        self.assertIs(type(taken.exception), NoSense)
        return (taken.exception.at, taken.exception.why)

    def test_without_an_empty_row(self):
        self.assertEqual(self.at_of(""), 0)
        self.assertEqual(self.at_of("helper f"), 0)
        self.assertEqual(self.at_of(text_of(*PLAIN)), 6)
        self.assertEqual(self.at_of(text_of(*PLAIN, "look")), 7)
        self.assertEqual(self.at_of(text_of(*PLAIN, " ", "look")), 8)
        # Of no form as well, and without sense, but this comes first.
        self.assertEqual(self.at_of(text_of("x", "y", "z")), 3)
        self.assertEqual(self.at_of(text_of("helper f n n", "end")), 2)

    def test_something_behind_the_last_line_end(self):
        self.assertEqual(self.at_of(text_of(*PLAIN, "") + "look"), 7)
        self.assertEqual(self.at_of(text_of(*PLAIN, "", "look") + " "), 8)
        self.assertEqual(self.at_of(text_of("x", "", "look") + "look"), 3)
        self.assertEqual(self.at_of(text_of("helper f n n", "end", "") + "x"), 3)
        self.assertEqual(self.at_of(text_of(*PLAIN) + "look"), 6)

    def test_as_read_is(self):
        self.assertEqual(self.at_of("\n"), 0)
        self.assertEqual(self.at_of("\nlook\n"), 0)
        self.assertEqual(self.at_of("\n\n"), 0)
        self.assertEqual(self.at_of(text_of("helper f", "", "end", "", "look")), 1)
        self.assertEqual(self.at_of(text_of("helper f", "let x = y +", "end", "", "look")), 1)
        self.assertEqual(self.at_of(text_of("helper f", "end", "look", "", "look")), 2)
        self.assertEqual(self.at_of(text_of("helper f", "end ", "", "look")), 1)
        chance = random.Random(345)
        for _ in range(60):
            rows = DrawnSense(chance).rows
            wrong = ("end", "else", "let x = ", "holds 0 = 0", "x", "if 0 = 0")
            rows[chance.randrange(len(rows))] = chance.choice(wrong)
            try:
                read(text_of(*rows))
            except NoText:
                self.assertEqual(self.at_of(text_of(*rows, "", "look")), refused_at(self, text_of(*rows)))

    def test_without_sense(self):
        self.assertEqual(self.why_of("helper f n n", "end", "", "look"), (0, "twice"))
        self.assertEqual(self.why_of("helper f n", "let n = 1", "end", ""), (1, "fixed"))
        self.assertEqual(self.why_of("helper f n", "let x = #n", "end", ""), (1, "kind"))
        self.assertEqual(self.why_of("helper f n", "call g n", "end", "", "x"), (1, "unknown"))
        self.assertEqual(self.why_of("helper g", "end", "helper f n", "call g n", "end", ""), (3, "given"))
        self.assertEqual(self.why_of("helper f n", "needs x > n", "end", ""), (1, "stranger"))
        for rows in (["helper f n", "let x = a at 0", "let a = 1", "end"], ["helper f", "end", "helper f", "end"]):
            self.assertEqual(self.why_of(*rows, "", "look"), sensible(program_of(*rows)))

    def test_no_other_refusal(self):
        chance = random.Random(346)
        asked = ["look", "let by", "mend", "text", "run f 1", "run f", "run main 1 2", "why claim 3", "why", "",
                 "run g []", "run f [1]"]
        for _ in range(25):
            rows = DrawnSense(chance).rows
            if chance.random() < 0.4:
                rows[chance.randrange(len(rows))] = chance.choice(("end", "let n = 3", "let x = 1", "", "call h", "x"))
            text = text_of(*rows, "", *[chance.choice(asked) for _ in range(5)])
            try:
                self.assertIs(type(played(text)), str)
            except WritError as error:
                self.assertIn(type(error), (NoText, NoSense))
                self.assertNotIsInstance(error, (Fault, NoRun, TooMany, TooHard))


if __name__ == "__main__":
    unittest.main()
