import unittest

from holdwright.conditions import Condition
from holdwright.debts import Debt, debts
from holdwright.errors import TooMany
from holdwright.programs import Helper, Program
from holdwright.steps import Let, Repeat
from holdwright.sums import Sum
from support import compare, program_of, total


def row_text(row):
    """A row of a path as a text: `any x`, `let x = SUM`, `hold CONDITION`."""
    if row[0] == "any":
        return "any " + row[1]
    if row[0] == "let":
        return f"let {row[1]} = {row[2].text()}"
    return "hold " + row[1].text()


def fewest_parts(told):
    """The fewest conditions that an `and` or `or` has in what a condition tells; 2 without one."""
    if told[0] == "compare":
        return 2
    inner = [fewest_parts(part) for part in told[1:]]
    return min(inner) if told[0] == "not" else min([2, len(told) - 1] + inner)


def shown(found):
    return [(debt.kind, debt.at, [row_text(row) for row in debt.ahead], debt.condition.text()) for debt in found]


class DebtsTest(unittest.TestCase):
    maxDiff = None

    def check(self, text, *expected):
        """The debts of the last helper; of each its kind, its at, its path's rows and its condition."""
        program = program_of(*text)
        told = program.told()
        found = debts(program, program.helpers[-1].name)
        self.assertEqual(shown(found), [(kind, at, list(path), condition) for kind, at, path, condition in expected])
        self.assertIs(type(found), list)
        for debt in found:
            self.assert_kinds(debt)
        self.assertEqual(program.told(), told)

    def assert_kinds(self, debt):
        self.assertIsInstance(debt, Debt)
        self.assertIsInstance(debt.condition, Condition)
        # Of one condition alone the text tells the same as the condition's own.
        for condition in [debt.condition] + [row[1] for row in debt.ahead if row[0] == "hold"]:
            self.assertEqual(fewest_parts(condition.told()), 2)
        self.assertIs(type(debt.ahead), tuple)
        for row in debt.ahead:
            self.assertIs(type(row), tuple)
            self.assertEqual(len(row), 3 if row[0] == "let" else 2)
            if row[0] == "hold":
                self.assertIsInstance(row[1], Condition)
            else:
                self.assertIs(type(row[1]), str)
            if row[0] == "let":
                self.assertIsInstance(row[2], Sum)


class DebtTest(unittest.TestCase):
    def test_fields(self):
        ahead, condition = (("any", "x"),), compare("x", "<", 3)
        debt = Debt("claim", 4, ahead, condition)
        self.assertEqual((debt.kind, debt.at, debt.ahead, debt.condition), ("claim", 4, ahead, condition))

    def test_a_list_is_kept_as_it_is(self):
        ahead = [("any", "x")]
        debt = Debt("claim", 4, ahead, compare("x", "<", 3))
        self.assertIs(debt.ahead, ahead)

    def test_names_of_arguments(self):
        debt = Debt(kind="claim", at=4, ahead=(), condition=compare("x", "<", 3))
        self.assertEqual((debt.kind, debt.at, debt.ahead), ("claim", 4, ()))


class BeginningTest(DebtsTest):
    def test_nothing(self):
        self.check(("helper f", "end"))
        self.check(("helper f x #a", "answers y", "needs x < 3", "let y = 3", "end"))

    def test_params_in_their_order(self):
        self.check(("helper f x #b a #y", "claim 0 = 0", "end"),
                   ("claim", 1, ["any x", "any #b", "hold 0 <= #b", "any a", "any #y", "hold 0 <= #y"], "0 = 0"))

    def test_other_names_and_lengths_rising_together(self):
        first = ["any n", "any #r", "hold 0 <= #r", "let #c = 0", "let #d = 0", "let a = 0", "let b = 0", "let y = 0",
                 "let z = 0"]
        self.check(("helper f n #r", "answers z b", "claim y < #d + n", "let a = c at 0", "end"),
                   ("claim", 2, first, "y < #d + n"),
                   ("beyond", 3, first + ["hold y < #d + n"], "0 <= 0 and 0 <= #c - 1"))

    def test_where_names_may_stand(self):
        names = ["#a", "#b", "#c", "#d", "#e", "g", "h", "i", "j", "k", "l", "m"]
        program = program_of("helper f", "claim 0 = 0", "if #a = g", "let h = 0", "else", "put b at #c = i", "end",
                             "while j = 0", "holds k < #d", "falls #e + l", "let m = m", "end", "end")
        self.assertEqual(shown(debts(program, "f"))[0], ("claim", 1, [f"let {name} = 0" for name in names], "0 = 0"))

    def test_names_of_calls_and_what_they_give(self):
        program = program_of("helper g n #r", "answers x", "end", "helper f", "claim 0 = 0", "call y = g z + #a, #b",
                             "end")
        self.assertEqual(shown(debts(program, "f"))[0],
                         ("claim", 4, ["let #a = 0", "let #b = 0", "let y = 0", "let z = 0"], "0 = 0"))

    def test_what_falls_out_of_a_sum_doesnt_stand_there(self):
        self.check(("helper f", "claim x - x = 0", "end"), ("claim", 1, [], "0 = 0"))

    def test_needs_in_their_order(self):
        self.check(("helper f x #a", "answers y", "needs x < 3", "needs not (#a = 2) or x = 1", "claim y = 1", "end"),
                   ("claim", 4, ["any x", "any #a", "hold 0 <= #a", "let y = 0", "hold x < 3",
                                 "hold not (#a = 2) or x = 1"], "y = 1"))

    def test_the_helper_of_that_name(self):
        program = program_of("helper f", "claim 0 = 1", "end", "helper g", "claim 0 = 2", "end")
        self.assertEqual(shown(debts(program, "f")), [("claim", 1, [], "0 = 1")])
        self.assertEqual(shown(debts(program, "g")), [("claim", 4, [], "0 = 2")])


class PlainStepsTest(DebtsTest):
    def test_let(self):
        self.check(("helper f n", "let x = 2*n + 1", "let x = x - n", "claim x = 0", "end"),
                   ("claim", 3, ["any n", "let x = 0", "let x = 2*n + 1", "let x = -n + x"], "x = 0"))

    def test_claims_one_behind_the_other(self):
        self.check(("helper f n", "claim n < 3", "claim n < 4 or n = 7", "claim not (n > 5)", "end"),
                   ("claim", 1, ["any n"], "n < 3"),
                   ("claim", 2, ["any n", "hold n < 3"], "n < 4 or n = 7"),
                   ("claim", 3, ["any n", "hold n < 3", "hold n < 4 or n = 7"], "not (n > 5)"))

    def test_fetch(self):
        first = ["any i", "any #a", "hold 0 <= #a", "let x = 0"]
        self.check(("helper f i #a", "let x = a at i + 2", "claim x = 0", "end"),
                   ("beyond", 1, first, "0 <= i + 2 and i + 2 <= #a - 1"),
                   ("claim", 2, first + ["hold 0 <= i + 2 and i + 2 <= #a - 1", "any x"], "x = 0"))

    def test_fetch_into_its_place(self):
        self.check(("helper f #a", "let i = a at i", "claim i = 0", "end"),
                   ("beyond", 1, ["any #a", "hold 0 <= #a", "let i = 0"], "0 <= i and i <= #a - 1"),
                   ("claim", 2, ["any #a", "hold 0 <= #a", "let i = 0", "hold 0 <= i and i <= #a - 1", "any i"],
                    "i = 0"))

    def test_put(self):
        first = ["any i", "any #a", "hold 0 <= #a", "let y = 0"]
        self.check(("helper f i #a", "put a at 2*i - #a = y", "claim y = 0", "end"),
                   ("beyond", 1, first, "0 <= -#a + 2*i and -#a + 2*i <= #a - 1"),
                   ("claim", 2, first + ["hold 0 <= -#a + 2*i and -#a + 2*i <= #a - 1"], "y = 0"))

    def test_make(self):
        self.check(("helper f n", "row c = n - 3", "row c = #c + 1", "claim #c = n", "end"),
                   ("short", 1, ["any n", "let #c = 0"], "0 <= n - 3"),
                   ("short", 2, ["any n", "let #c = 0", "hold 0 <= n - 3", "let #c = n - 3"], "0 <= #c + 1"),
                   ("claim", 3, ["any n", "let #c = 0", "hold 0 <= n - 3", "let #c = n - 3", "hold 0 <= #c + 1",
                                 "let #c = #c + 1"], "#c = n"))

    def test_what_is_put_and_fetched_by_numbers_alone(self):
        self.check(("helper f #a", "put a at 3 = 4", "end"),
                   ("beyond", 1, ["any #a", "hold 0 <= #a"], "0 <= 3 and 3 <= #a - 1"))


class DivideTest(DebtsTest):
    def behind(self, row, *rows):
        """The rows that stand behind what is owed by the Divide."""
        self.check(("helper f n", row, "claim n = x", "end"),
                   ("nought", 1, ["any n", "let x = 0"], rows[0]),
                   ("claim", 2, ["any n", "let x = 0", "hold " + rows[0], *rows[1:]], "n = x"))

    def test_by_a_number_above_nought(self):
        self.behind("let x = n + 1 div 3", "3 != 0", "let ^ = n + 1", "any ^^", "hold 3*^^ <= ^ and ^ <= 3*^^ + 2",
                    "let x = ^^")
        self.behind("let x = n + 1 mod 3", "3 != 0", "let ^ = n + 1", "any ^^", "hold 3*^^ <= ^ and ^ <= 3*^^ + 2",
                    "let x = ^ - 3*^^")

    def test_by_one(self):
        self.behind("let x = n div 1", "1 != 0", "let ^ = n", "any ^^", "hold ^^ <= ^ and ^ <= ^^", "let x = ^^")
        self.behind("let x = n mod 1", "1 != 0", "let ^ = n", "any ^^", "hold ^^ <= ^ and ^ <= ^^", "let x = ^ - ^^")

    def test_by_a_number_below_nought(self):
        self.behind("let x = 2*n div -3", "-3 != 0", "let ^ = 2*n", "any ^^", "hold ^ <= -3*^^ and -3*^^ - 2 <= ^",
                    "let x = ^^")
        self.behind("let x = 2*n mod -3", "-3 != 0", "let ^ = 2*n", "any ^^", "hold ^ <= -3*^^ and -3*^^ - 2 <= ^",
                    "let x = ^ + 3*^^")
        self.behind("let x = n div -1", "-1 != 0", "let ^ = n", "any ^^", "hold ^ <= -^^ and -^^ <= ^", "let x = ^^")

    def test_by_terms_or_nought(self):
        for word in ("div", "mod"):
            self.behind(f"let x = n {word} n + 2", "n + 2 != 0", "any x")
            self.behind(f"let x = 5 {word} x", "x != 0", "any x")
            self.behind(f"let x = n {word} 0", "0 != 0", "any x")
            self.behind(f"let x = n {word} n - n", "0 != 0", "any x")

    def test_terms_that_fall_out(self):
        self.behind("let x = n div n - n + 2", "2 != 0", "let ^ = n", "any ^^", "hold 2*^^ <= ^ and ^ <= 2*^^ + 1",
                    "let x = ^^")

    def test_a_number_divided(self):
        self.behind("let x = 7 mod 4", "4 != 0", "let ^ = 7", "any ^^", "hold 4*^^ <= ^ and ^ <= 4*^^ + 3",
                    "let x = ^ - 4*^^")


class ChooseTest(DebtsTest):
    def test_both_sides(self):
        self.check(("helper f n", "if n < 3", "claim n = 1", "else", "claim n = 2", "end", "claim n = 3", "end"),
                   ("claim", 2, ["any n", "hold n < 3"], "n = 1"),
                   ("claim", 4, ["any n", "hold n >= 3"], "n = 2"),
                   ("claim", 6, ["any n", "hold n < 3", "hold n = 1"], "n = 3"),
                   ("claim", 6, ["any n", "hold n >= 3", "hold n = 2"], "n = 3"))

    def test_without_else_and_without_steps(self):
        self.check(("helper f n", "if n < 3", "let x = 1", "end", "claim x = 1", "end"),
                   ("claim", 4, ["any n", "let x = 0", "hold n < 3", "let x = 1"], "x = 1"),
                   ("claim", 4, ["any n", "let x = 0", "hold n >= 3"], "x = 1"))
        self.check(("helper f n", "if n < 3", "end", "claim n = 1", "end"),
                   ("claim", 3, ["any n", "hold n < 3"], "n = 1"), ("claim", 3, ["any n", "hold n >= 3"], "n = 1"))

    def test_opposites_of_each_kind(self):
        for condition, opposite in (("not (n = 1)", "n = 1"), ("n < 1 and n != 0", "n >= 1 or n = 0"),
                                    ("n < 1 or not (n > 5)", "n >= 1 and n > 5")):
            self.check(("helper f n", f"if {condition}", "end", "claim n = 1", "end"),
                       ("claim", 3, ["any n", "hold " + condition], "n = 1"),
                       ("claim", 3, ["any n", "hold " + opposite], "n = 1"))

    def test_one_within_another(self):
        self.check(("helper f n", "if n < 1", "if n < 2", "claim n = 1", "else", "claim n = 2", "end", "claim n = 3",
                    "else", "if n < 4", "claim n = 4", "end", "end", "claim n = 5", "end"),
                   ("claim", 3, ["any n", "hold n < 1", "hold n < 2"], "n = 1"),
                   ("claim", 5, ["any n", "hold n < 1", "hold n >= 2"], "n = 2"),
                   ("claim", 7, ["any n", "hold n < 1", "hold n < 2", "hold n = 1"], "n = 3"),
                   ("claim", 7, ["any n", "hold n < 1", "hold n >= 2", "hold n = 2"], "n = 3"),
                   ("claim", 10, ["any n", "hold n >= 1", "hold n < 4"], "n = 4"),
                   ("claim", 13, ["any n", "hold n < 1", "hold n < 2", "hold n = 1", "hold n = 3"], "n = 5"),
                   ("claim", 13, ["any n", "hold n < 1", "hold n >= 2", "hold n = 2", "hold n = 3"], "n = 5"),
                   ("claim", 13, ["any n", "hold n >= 1", "hold n < 4", "hold n = 4"], "n = 5"),
                   ("claim", 13, ["any n", "hold n >= 1", "hold n >= 4"], "n = 5"))

    def test_one_behind_another(self):
        self.check(("helper f n", "if n < 1", "end", "if n < 2", "claim n = 1", "claim n = 2", "else", "claim n = 3",
                    "end", "end"),
                   ("claim", 4, ["any n", "hold n < 1", "hold n < 2"], "n = 1"),
                   ("claim", 5, ["any n", "hold n < 1", "hold n < 2", "hold n = 1"], "n = 2"),
                   ("claim", 7, ["any n", "hold n < 1", "hold n >= 2"], "n = 3"),
                   ("claim", 4, ["any n", "hold n >= 1", "hold n < 2"], "n = 1"),
                   ("claim", 5, ["any n", "hold n >= 1", "hold n < 2", "hold n = 1"], "n = 2"),
                   ("claim", 7, ["any n", "hold n >= 1", "hold n >= 2"], "n = 3"))

    def test_each_step_on_each_path_in_turn(self):
        self.check(("helper f n", "if n < 1", "end", "claim n = 1", "claim n = 2", "end"),
                   ("claim", 3, ["any n", "hold n < 1"], "n = 1"), ("claim", 3, ["any n", "hold n >= 1"], "n = 1"),
                   ("claim", 4, ["any n", "hold n < 1", "hold n = 1"], "n = 2"),
                   ("claim", 4, ["any n", "hold n >= 1", "hold n = 1"], "n = 2"))


class RepeatTest(DebtsTest):
    def test_without_holds_and_falls(self):
        self.check(("helper f n", "while i < n", "claim i = 0", "let i = i + 1", "end", "claim i = 1", "end"),
                   ("claim", 2, ["any n", "let i = 0", "any i", "hold i < n"], "i = 0"),
                   ("claim", 5, ["any n", "let i = 0", "any i", "hold i >= n"], "i = 1"))

    def test_holds(self):
        first = ["any n", "let i = 0"]
        ahead = first + ["hold 0 <= i", "hold i <= n", "any i", "hold 0 <= i", "hold i <= n"]
        behind = ahead + ["hold i < n", "let i = i + 1"]
        self.check(("helper f n", "while i < n", "holds 0 <= i", "holds i <= n", "let i = i + 1", "end", "claim i = n",
                    "end"),
                   ("first", 2, first, "0 <= i"), ("first", 3, first + ["hold 0 <= i"], "i <= n"),
                   ("again", 2, behind, "0 <= i"), ("again", 3, behind + ["hold 0 <= i"], "i <= n"),
                   ("claim", 6, ahead + ["hold i >= n"], "i = n"))

    def test_falls(self):
        ahead = ["any n", "let i = 0", "any i"]
        begun = ahead + ["hold i < n"]
        self.check(("helper f n", "while i < n", "falls n - i + 2", "let i = i + 1", "end", "claim i = n", "end"),
                   ("bound", 2, begun, "0 <= -i + n + 2"),
                   ("falls", 2, begun + ["hold 0 <= -i + n + 2", "let ~1 = -i + n + 2", "let i = i + 1"],
                    "-i + n + 2 <= ~1 - 1"),
                   ("claim", 5, ahead + ["hold i >= n"], "i = n"))

    def test_both(self):
        first = ["any n", "let i = 0"]
        ahead = first + ["hold i <= n", "any i", "hold i <= n"]
        begun = ahead + ["hold i < n"]
        behind = begun + ["hold 0 <= -i + n", "let ~2 = -i + n", "let i = i + 1"]
        self.check(("helper f n", "gives n = 0", "while i < n", "holds i <= n", "falls n - i", "let i = i + 1", "end",
                    "end"),
                   ("first", 3, first, "i <= n"), ("bound", 4, begun, "0 <= -i + n"), ("again", 3, behind, "i <= n"),
                   ("falls", 4, behind + ["hold i <= n"], "-i + n <= ~2 - 1"),
                   ("gives", 1, ahead + ["hold i >= n"], "n = 0"))

    def test_without_steps(self):
        ahead = ["any n", "hold n = 3", "hold n = 3"]
        self.check(("helper f n", "while n < 3", "holds n = 3", "end", "claim n = 4", "end"),
                   ("first", 2, ["any n"], "n = 3"), ("again", 2, ahead + ["hold n < 3"], "n = 3"),
                   ("claim", 4, ahead + ["hold n >= 3"], "n = 4"))

    def test_paths_of_a_round_one_by_one(self):
        first = ["any n"]
        ahead = first + ["let i = 0", "hold i >= 0", "hold n > 0", "any i", "hold i >= 0", "hold n > 0"]
        begun = ahead + ["hold i < n", "hold 0 <= -i", "let ~1 = -i"]
        one, other = begun + ["hold i = 2", "let i = 1"], begun + ["hold i != 2"]
        kept = ["hold i >= 0", "hold n > 0"]
        self.check(("helper f n", "while i < n", "holds i >= 0", "holds n > 0", "falls -i", "if i = 2", "let i = 1",
                    "end", "end", "claim n = 9", "end"),
                   ("first", 2, ["any n", "let i = 0"], "i >= 0"),
                   ("first", 3, ["any n", "let i = 0", "hold i >= 0"], "n > 0"),
                   ("bound", 4, ahead + ["hold i < n"], "0 <= -i"),
                   ("again", 2, one, "i >= 0"), ("again", 3, one + kept[:1], "n > 0"),
                   ("falls", 4, one + kept, "-i <= ~1 - 1"),
                   ("again", 2, other, "i >= 0"), ("again", 3, other + kept[:1], "n > 0"),
                   ("falls", 4, other + kept, "-i <= ~1 - 1"),
                   ("claim", 9, ahead + ["hold i >= n"], "n = 9"))

    def test_what_the_steps_write_rising(self):
        program = program_of("helper g", "answers x y", "end", "helper f #z n", "while n = 0", "let y = 1",
                             "let x = 3 div n", "let w = z at 0", "row c = 2", "call e d = g", "put a at 0 = u",
                             "end", "claim n = t", "end")
        lasting = ["any #z", "hold 0 <= #z", "any n", "let #a = 0", "let #c = 0", "let d = 0", "let e = 0", "let t = 0",
                   "let u = 0", "let w = 0", "let x = 0", "let y = 0"]
        written = ["any #c", "hold 0 <= #c", "any d", "any e", "any w", "any x", "any y"]
        self.assertEqual(shown(debts(program, "f"))[-1],
                         ("claim", 12, lasting + written + ["hold n != 0"], "n = t"))

    def test_what_they_write_at_any_depth(self):
        program = program_of("helper f n", "while n = 0", "if n = 1", "let x = 1", "else", "while n = 2", "row b = 1",
                             "if n = 3", "else", "let a = 1 mod 2", "end", "end", "end", "end", "claim n = #b", "end")
        written = ["any #b", "hold 0 <= #b", "any a", "any x"]
        self.assertEqual(shown(debts(program, "f"))[-1],
                         ("claim", 14, ["any n", "let #b = 0", "let a = 0", "let x = 0", *written, "hold n != 0"],
                          "n = #b"))

    def test_a_loop_within_another(self):
        first = ["any n", "let i = 0", "let j = 0"]
        outer = first + ["any i", "any j", "hold i < n"]
        outer_begun = outer + ["hold 0 <= -i + n", "let ~1 = -i + n", "let j = 0"]
        inner = outer_begun + ["any j"]
        inner_begun = inner + ["hold j < i", "hold 0 <= i - j", "let ~4 = i - j"]
        behind = inner + ["hold j >= i", "let i = i + 1"]
        self.check(("helper f n", "while i < n", "falls n - i", "let j = 0", "while j < i", "falls i - j",
                    "let j = j + 1", "end", "let i = i + 1", "end", "end"),
                   ("bound", 2, outer, "0 <= -i + n"), ("bound", 5, inner + ["hold j < i"], "0 <= i - j"),
                   ("falls", 5, inner_begun + ["let j = j + 1"], "i - j <= ~4 - 1"),
                   ("falls", 2, behind, "-i + n <= ~1 - 1"))

    def test_opposites_of_each_kind(self):
        self.check(("helper f n", "while n < 3 and not (n = 1)", "end", "claim n = 0", "end"),
                   ("claim", 3, ["any n", "hold n >= 3 or n = 1"], "n = 0"))

    def test_loops_on_each_path_in_turn(self):
        self.check(("helper f n", "if n = 0", "end", "while n < 3", "holds n = 1", "end", "end"),
                   ("first", 4, ["any n", "hold n = 0"], "n = 1"),
                   ("again", 4, ["any n", "hold n = 0", "hold n = 1", "hold n = 1", "hold n < 3"], "n = 1"),
                   ("first", 4, ["any n", "hold n != 0"], "n = 1"),
                   ("again", 4, ["any n", "hold n != 0", "hold n = 1", "hold n = 1", "hold n < 3"], "n = 1"))

    def test_a_falls_list(self):
        repeat = Repeat(3, compare("x", "<", 3), [[5, compare("x", "<=", 3)]], [7, total(3, x=-1)],
                        [Let(9, "x", total(1, x=1))])
        found = debts(Program([Helper(0, "f", [], [], [], [], [repeat])]), "f")
        self.assertEqual([(debt.kind, debt.at) for debt in found],
                         [("first", 5), ("bound", 7), ("again", 5), ("falls", 7)])
        self.assertEqual(found[3].condition.text(), "-x + 3 <= ~3 - 1")


class CallTest(DebtsTest):
    def test_without_needs_and_gives(self):
        self.check(("helper g n #r m", "answers x y", "end", "helper f i #a", "call s t = g i + 1, #a, 2*#a",
                    "claim s = t", "end"),
                   ("claim", 5, ["any i", "any #a", "hold 0 <= #a", "let s = 0", "let t = 0", "let ^0 = i + 1",
                                 "let ^2 = 2*#a", "any s", "any t"], "s = t"))

    def test_names_in_their_order(self):
        self.check(("helper g", "answers x y", "end", "helper f", "call t s = g", "claim s = t", "end"),
                   ("claim", 5, ["let s = 0", "let t = 0", "any t", "any s"], "s = t"))

    def test_nothing_given_and_no_names(self):
        self.check(("helper g", "end", "helper f n", "call g", "claim n = 0", "end"), ("claim", 4, ["any n"], "n = 0"))

    def test_one_need(self):
        first = ["any i", "any #a", "hold 0 <= #a", "let ^0 = 2*i"]
        self.check(("helper g n #r", "needs n < #r", "end", "helper f i #a", "call g 2*i, #a", "claim i = 0", "end"),
                   ("needs", 4, first, "^0 < #a"),
                   ("claim", 5, first + ["hold ^0 < #a"], "i = 0"))

    def test_two_needs(self):
        self.check(("helper g n", "needs n < 3", "needs n > 1", "end", "helper f", "call g 2", "end"),
                   ("needs", 5, ["let ^0 = 2"], "^0 < 3 and ^0 > 1"))

    def test_several_needs(self):
        first = ["any i", "any #a", "hold 0 <= #a", "let ^1 = i", "let ^2 = #a"]
        every = "^1 < #a and (^2 = 3 or not (#a = 1)) and (0 <= ^1 and ^1 <= ^2)"
        self.check(("helper g #r n m", "needs n < #r", "needs m = 3 or not (#r = 1)", "needs 0 <= n and n <= m", "end",
                    "helper f i #a", "call g #a, i, #a", "claim i = 0", "end"),
                   ("needs", 6, first, every), ("claim", 7, first + ["hold " + every], "i = 0"))

    def test_gives(self):
        self.check(("helper g n #r", "answers x y", "gives x < n", "gives y = #r or x = y", "end",
                    "helper f i #a", "call s t = g i, #a", "claim s = t", "end"),
                   ("claim", 7, ["any i", "any #a", "hold 0 <= #a", "let s = 0", "let t = 0", "let ^0 = i", "any s",
                                 "any t", "hold s < ^0", "hold t = #a or s = t"], "s = t"))

    def test_needs_and_gives_and_names_that_are_given(self):
        first = ["let x = 0", "let y = 0", "let x = 4", "let ^0 = x", "let ^1 = x + y"]
        self.check(("helper g x y", "answers z", "needs x < y", "gives z = y - x", "end",
                    "helper f", "let x = 4", "call x = g x, x + y", "claim x = y", "end"),
                   ("needs", 7, first, "^0 < ^1"),
                   ("claim", 8, first + ["hold ^0 < ^1", "any x", "hold x = -^0 + ^1"], "x = y"))

    def test_names_that_change_places(self):
        """A name that stands for an answer may be called like another answer, or like a param."""
        self.check(("helper g n", "answers x y", "gives x + n < 2*y", "end", "helper f", "call y x = g 3", "claim 0 = 0",
                    "end"),
                   ("claim", 6, ["let x = 0", "let y = 0", "let ^0 = 3", "any y", "any x", "hold ^0 + y < 2*x"],
                    "0 = 0"))
        self.check(("helper g #a #b", "needs #a < #b", "gives #b > #a", "end", "helper f #a #b", "call g #b, #a",
                    "claim 0 = 0", "end"),
                   ("needs", 5, ["any #a", "hold 0 <= #a", "any #b", "hold 0 <= #b"], "#b < #a"),
                   ("claim", 6, ["any #a", "hold 0 <= #a", "any #b", "hold 0 <= #b", "hold #b < #a", "hold #a > #b"],
                    "0 = 0"))

    def test_one_row_for_two_params(self):
        self.check(("helper g #a #b", "needs #a < #b", "end", "helper f #c", "call g #c, #c", "end"),
                   ("needs", 4, ["any #c", "hold 0 <= #c"], "#c < #c"))

    def test_terms_that_fall_together(self):
        self.check(("helper g n #a #b", "needs n + #a - #b <= 0", "end", "helper f #c", "call g 2, #c, #c", "end"),
                   ("needs", 4, ["any #c", "hold 0 <= #c", "let ^0 = 2"], "^0 <= 0"))

    def test_called_twice(self):
        self.check(("helper g n", "answers x", "gives x = n", "end", "helper f", "call x = g 1", "call x = g x",
                    "claim x = 1", "end"),
                   ("claim", 7, ["let x = 0", "let ^0 = 1", "any x", "hold x = ^0", "let ^0 = x", "any x",
                                 "hold x = ^0"], "x = 1"))

    def test_the_called_ones_own_debts_are_left_out(self):
        self.check(("helper g n", "gives n = 1", "claim n = 1", "end", "helper f", "call g 2", "end"))


class EndTest(DebtsTest):
    def test_gives(self):
        self.check(("helper f n", "answers y", "gives y = n", "gives y < 3", "let y = n", "end"),
                   ("gives", 2, ["any n", "let y = 0", "let y = n"], "y = n"),
                   ("gives", 3, ["any n", "let y = 0", "let y = n", "hold y = n"], "y < 3"))

    def test_gives_on_each_path(self):
        self.check(("helper f n", "answers y", "gives y = n", "gives y < 3", "if n = 0", "let y = 1", "end", "end"),
                   ("gives", 2, ["any n", "let y = 0", "hold n = 0", "let y = 1"], "y = n"),
                   ("gives", 3, ["any n", "let y = 0", "hold n = 0", "let y = 1", "hold y = n"], "y < 3"),
                   ("gives", 2, ["any n", "let y = 0", "hold n != 0"], "y = n"),
                   ("gives", 3, ["any n", "let y = 0", "hold n != 0", "hold y = n"], "y < 3"))

    def test_gives_without_steps(self):
        self.check(("helper f n", "needs n = 1", "gives n > 0", "end"), ("gives", 2, ["any n", "hold n = 1"], "n > 0"))


class AskedAgainTest(DebtsTest):
    text = ("helper f n #a", "answers y", "gives y = n", "while y < n", "holds y <= n", "falls n - y", "if y = 2",
            "let y = 3", "end", "put a at y = 1", "let y = y + 1", "end", "end")

    def test_the_same(self):
        program = program_of(*self.text)
        first = debts(program, "f")
        expected = shown(first)
        self.assertGreater(len(first), 5)
        first.clear()
        self.assertEqual(shown(debts(program, "f")), expected)
        self.assertIsNot(debts(program, "f"), debts(program, "f"))

    def test_names_of_arguments(self):
        self.assertEqual(debts(program=program_of("helper f", "end"), name="f"), [])


class TooManyTest(DebtsTest):
    def count(self, number, *text):
        program = program_of(*text)
        self.assertEqual(len(debts(program, program.helpers[-1].name)), number)

    def refused(self, *text):
        program = program_of(*text)
        with self.assertRaises(TooMany) as taken:
            debts(program, program.helpers[-1].name)
        self.assertIs(type(taken.exception), TooMany)

    def test_paths_behind_each_other(self):
        choose = ("if n = 0", "end")
        for times in range(8):
            text = ("helper f n", "gives n = 0", *choose * times, "end")
            if times <= 4:
                self.count(2 ** times, *text)
            else:
                self.refused(*text)

    def test_paths_where_nothing_is_owed(self):
        self.count(0, "helper f n", *("if n = 0", "end") * 4, "end")
        self.refused("helper f n", *("if n = 0", "end") * 5, "end")

    def test_paths_of_choices_within_one_another(self):
        def chain(sides):
            rows = []
            for _ in range(sides - 1):
                rows = ["if n = 0", "let x = 1", "else", *rows, "let y = 1", "end"]
            return rows
        self.count(16, "helper f n", "gives n = 0", *chain(4), *chain(4), "end")
        self.count(15, "helper f n", "gives n = 0", *chain(3), *chain(5), "end")
        self.count(12, "helper f n", "gives n = 0", *chain(6), *chain(2), "end")
        self.refused("helper f n", *chain(3), *chain(6), "end")
        self.refused("helper f n", *chain(6), *chain(3), "end")
        self.refused("helper f n", *chain(4), *chain(5), "end")

    def test_paths_of_a_round_end_with_it(self):
        choose = ("if n = 0", "end")
        four = ("while n = 0", *choose * 4, "end")
        self.count(1, "helper f n", "gives n = 0", *four * 3, "end")
        self.count(16, "helper f n", "gives n = 0", *choose * 4, *four, "end")
        self.refused("helper f n", "while n = 0", *choose * 5, "end", "end")
        self.count(17, "helper f n", "while n = 0", "holds n = 0", *choose * 4, "end", "end")
        self.refused("helper f n", "while n = 0", "while n = 1", *choose * 5, "end", "end", "end")

    def test_sides_are_begun_on_one_path_each(self):
        choose = ("if n = 0", "end")
        self.count(16, "helper f n", "gives n = 0", "if n = 1", *choose * 3, "else", *choose * 3, "end", "end")
        self.refused("helper f n", "if n = 1", *choose * 4, "else", "let x = 1", "end", "end")
        self.refused("helper f n", "if n = 1", "let x = 1", "else", *choose * 4, "end", "end")
        self.refused("helper f n", "if n = 1", *choose * 3, "else", *choose * 3, "end", *choose, "end")
        self.refused("helper f n", "if n = 1", "while n = 2", *choose * 5, "end", "end", "end")

    def test_debts(self):
        self.count(99, "helper f n", *("claim n = 0",) * 99, "end")
        self.count(100, "helper f n", *("claim n = 0",) * 100, "end")
        self.refused("helper f n", *("claim n = 0",) * 101, "end")

    def test_debts_of_each_kind_count(self):
        ahead = ("helper g n", "needs n = 0", "end", "helper f n #a", "answers y")
        claims = ("claim n = 0",) * 99
        for row in ("claim n = 1", "let x = 1 div 2", "let x = n mod n", "let x = a at 0", "put a at 0 = 1",
                    "row c = 2", "call g 0"):
            self.count(100, *ahead, *claims, row, "end")
            self.refused(*ahead, *claims, "claim n = 2", row, "end")
        loops = ("while n = 0", "holds n = 0", "falls 1", "end")
        self.count(100, *ahead, *claims[3:], *loops, "end")
        for count in range(97, 101):
            self.refused(*ahead, *("claim n = 0",) * count, *loops, "end")
        self.count(100, *ahead, "gives n = 0", *claims, "end")
        self.refused(*ahead, "gives n = 0", "gives n = 1", *claims, "end")

    def test_debts_of_many_paths(self):
        choose = ("if n = 0", "end")
        self.count(96, "helper f n", *choose * 4, *("claim n = 0",) * 6, "end")
        self.count(100, "helper f n", *("claim n = 1",) * 4, *choose * 4, *("claim n = 0",) * 6, "end")
        self.refused("helper f n", *("claim n = 1",) * 5, *choose * 4, *("claim n = 0",) * 6, "end")
        self.refused("helper f n", *choose * 4, *("claim n = 0",) * 7, "end")

    def test_other_helpers_debts_dont_count(self):
        self.count(100, "helper g n", *("claim n = 0",) * 60, "end", "helper f n", *("claim n = 0",) * 100, "call g n",
                   "end")

    def test_very_many_paths_of_rounds_within_one_another(self):
        choose = ("if n = 0", "let x = x + 1", "end")

        def loops(depth, inmost):
            return ["while n = 0", *choose * 4, *(loops(depth - 1, inmost) if depth > 1 else inmost), "end"]
        self.count(0, "helper f n", *choose * 4, *loops(4, []), "end")
        self.count(16, "helper f n", "gives n = 0", *choose * 4, *loops(4, []), "end")
        self.refused("helper f n", *choose * 4, *loops(4, ["claim n = 0"]), "end")
        self.count(1, "helper f n", *loops(4, []), "claim n = 0", "end")

    def test_rounds_in_which_something_is_owed_within_blocks(self):
        for inner in (["claim n = 0"], ["let x = 1 div 2"], ["row c = 1"], ["call g n"], ["while n = 1", "holds n = 2",
                      "end"], ["while n = 1", "falls n", "end"]):
            count = 1 if inner[0][:5] != "while" else 2
            self.count(count, "helper g n", "needs n = 0", "end", "helper f n", "while n = 0", "let x = 1",
                       "if n = 5", "while n = 6", *inner, "end", "end", "end", "end")
        self.count(0, "helper g n", "end", "helper f n", "while n = 0", "if n = 5", "call g n", "end", "end", "end")


if __name__ == "__main__":
    unittest.main()
