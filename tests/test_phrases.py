"""How sums and conditions are read (point 14)."""

import itertools
import random
import unittest

from support import KEPT, SIGNS, Drawn, refused_at, text_of, told_step

NINES = 999999999


def told_sum_of(text):
    return told_step(f"let x = {text}")[3]


def told_condition_of(text):
    return told_step(f"claim {text}")[2]


class SumTest(unittest.TestCase):
    def check(self, text, terms, number):
        self.assertEqual(told_sum_of(text), (terms, number), text)

    def check_refused(self, *texts):
        for text in texts:
            for row in ("let x = {}", "let x = {} div 2", "let x = y mod {}", "let x = a at {}", "put a at {} = 1",
                        "put a at 1 = {}", "row a = {}", "claim {} < 3", "claim 3 = {}", "call f {}",
                        "call x = f 1, {}", "if {} < 3"):
                self.assertEqual(refused_at(self, text_of("helper f", row.format(text), "end")), 1, row.format(text))

    def test_as_it_is_written(self):
        self.check("#a - 2*x + y - 3", (("#a", 1), ("x", -2), ("y", 1)), -3)
        self.check("-x", (("x", -1),), 0)
        self.check("0", (), 0)
        self.check("-4", (), -4)
        self.check("-2*#a", (("#a", -2),), 0)

    def test_in_any_order(self):
        for parts in itertools.permutations((("+", "x"), ("-", "2*#b"), ("+", "7"), ("-", "z"))):
            text = " ".join(sign + " " + term for sign, term in parts)
            text = text[2:] if text.startswith("+ ") else "-" + text[2:]
            self.check(text, (("#b", -2), ("x", 1), ("z", -1)), 7)

    def test_a_thing_several_times(self):
        self.check("x + x + 3*x", (("x", 5),), 0)
        self.check("x - x", (), 0)
        self.check("-x + 2*x - 3*x", (("x", -2),), 0)
        self.check("#x + x + #x", (("#x", 2), ("x", 1)), 0)
        self.check("x + y - x", (("y", 1),), 0)

    def test_numbers_several_times(self):
        self.check("1 + 2 + 3", (), 6)
        self.check("-1 - 2 - 3", (), -6)
        self.check("5 + x - 5", (("x", 1),), 0)
        self.check("3 - 4 + x + 3", (("x", 1),), 2)

    def test_noughts_and_ones(self):
        self.check("-0", (), 0)
        self.check("0*x", (), 0)
        self.check("-0*x + 0", (), 0)
        self.check("1*x", (("x", 1),), 0)
        self.check("y - 1*x", (("x", -1), ("y", 1)), 0)

    def test_figure_rows(self):
        for length in range(1, 10):
            for figures in ("123456789"[:length], "9" * length, "1" + "0" * (length - 1)):
                self.check(figures, (), int(figures))
                self.check("-" + figures, (), -int(figures))
                self.check(figures + "*x", (("x", int(figures)),), 0)
                self.check("y - " + figures + "*#x", (("#x", -int(figures)), ("y", 1)), 0)

    def test_each_first_figure(self):
        for figure in "0123456789":
            self.check(figure, (), int(figure))
            for rest in ("0", "5", "00000000"):
                if figure == "0":
                    self.check_refused(figure + rest, "-" + figure + rest, figure + rest + "*x")
                else:
                    self.check(figure + rest, (), int(figure + rest))

    def test_figure_rows_of_no_form(self):
        self.check_refused("1234567890", "1000000000", "0000000000", "00", "01", "01*x", "00*x", "1000000000*x",
                           "x - 1234567890", "-1234567890", "1_0", "1.0", "1e3", "+1", "0x1", "1,", "1.")

    def test_great_sums_of_no_form(self):
        self.check_refused(f"{NINES} + 1", f"-{NINES} - 1", f"{NINES}*x + x", f"-{NINES}*x - x", f"{NINES} + {NINES}",
                           f"x + {NINES}*#a + y + #a", f"x + {NINES} + y + 1", f"-{NINES}*y + x - {NINES}*y")

    def test_long_figure_rows_in_small_sums(self):
        self.check_refused("1000000000 - 1", "x - 1000000000 + 1", "1000000000*x - x", "-1234567890*#a + 999999999*#a",
                           "0000000001", "1234567890 - 999999999 - 234567891")

    def test_sums_at_the_edge(self):
        self.check(f"{NINES - 1} + 1", (), NINES)
        self.check(f"-{NINES - 1}*x - x", (("x", -NINES),), 0)
        self.check(f"{NINES}*x + {NINES}*#x + {NINES}*y + {NINES}", (("#x", NINES), ("x", NINES), ("y", NINES)), NINES)

    def test_great_only_on_the_way(self):
        self.check(f"{NINES} + 1 - 1", (), NINES)
        self.check(f"{NINES} + {NINES} - {NINES} - {NINES}", (), 0)
        self.check(f"-{NINES}*x - {NINES}*x + y + {NINES}*x", (("x", -NINES), ("y", 1)), 0)

    def test_names(self):
        self.check("abcdefgh + #abcdefgh", (("#abcdefgh", 1), ("abcdefgh", 1)), 0)
        self.check_refused("abcdefghi", "#abcdefghi", "X", "x1", "x_y", "#", "##x", "x#", "# x", "2*", "2*#", "*x")
        for word in KEPT:
            self.check_refused(word, "#" + word, "2*" + word, "x + " + word, "-" + word)

    def test_wrong_blanks(self):
        self.check_refused("x +y", "x+ y", "x+y", "x  + y", "x +  y", " x", "x ", "- x", "2 * x", "2* x", "2 *x",
                           "x - y ", "x\t+ y")

    def test_wrong_signs_and_missing_parts(self):
        self.check_refused("", "-", "+", "+ x", "+x", "x +", "x -", "x + + y", "x + -y", "x - -y", "x - - y", "--x",
                           "x y", "3 x", "x 3", "x * y", "x*y", "x*3", "3*3", "-3*-x", "3*-x", "2*3*x", "3x", "x / y",
                           "(x)", "(x + y)", "x + (y)", "-(x)", "x < y", "x, y,", "x;", "x.", "'x'", "x y z")
        for row in ("let x = x = y", "row a = x = y", "put a at 1 = x = y", "call x = f x = y"):
            self.assertEqual(refused_at(self, text_of("helper f", row, "end")), 1, row)


class ConditionTest(unittest.TestCase):
    x_3 = ("compare", ((("x", 1),), 0), "<", ((), 3))
    y_0 = ("compare", ((("y", 1),), 0), "=", ((), 0))
    x_y = ("compare", ((("x", 1),), 0), "=", ((("y", 1),), 0))

    def check(self, text, told):
        self.assertEqual(told_condition_of(text), told, text)

    def check_refused(self, *texts):
        for text in texts:
            self.assertEqual(refused_at(self, text_of("helper f", f"needs {text}", "end")), 1, text)
            self.assertEqual(refused_at(self, text_of("helper f", f"gives {text}", "end")), 1, text)
            self.assertEqual(refused_at(self, text_of("helper f", f"claim {text}", "end")), 1, text)
            self.assertEqual(refused_at(self, text_of("helper f", f"if {text}", "end", "end")), 1, text)
            self.assertEqual(refused_at(self, text_of("helper f", f"while {text}", "end", "end")), 1, text)
            self.assertEqual(refused_at(self, text_of("helper f", "while x < 3", f"holds {text}", "end", "end")), 2,
                             text)

    def test_the_documents_own(self):
        self.check("x < 3 and (y = 0 or not (x = y))", ("and", self.x_3, ("or", self.y_0, ("not", self.x_y))))

    def test_each_sign(self):
        for sign in SIGNS:
            self.check(f"#a - x {sign} 2 + y - 3",
                       ("compare", ((("#a", 1), ("x", -1)), 0), sign, ((("y", 1),), -1)))

    def test_not(self):
        self.check("not (x < 3)", ("not", self.x_3))
        self.check("not (not (x < 3))", ("not", ("not", self.x_3)))
        self.check("not (x < 3 and y = 0)", ("not", ("and", self.x_3, self.y_0)))
        self.check("not (not (x < 3) or y = 0)", ("not", ("or", ("not", self.x_3), self.y_0)))
        self.check("not (x < 3) and not (y = 0)", ("and", ("not", self.x_3), ("not", self.y_0)))

    def test_and_and_or(self):
        for word in ("and", "or"):
            self.check(f"x < 3 {word} y = 0", (word, self.x_3, self.y_0))
            self.check(f"x < 3 {word} y = 0 {word} x = y {word} x < 3", (word, self.x_3, self.y_0, self.x_y, self.x_3))

    def test_brackets(self):
        for word in ("and", "or"):
            for inner in ("and", "or"):
                self.check(f"(x < 3 {inner} y = 0) {word} x = y", (word, (inner, self.x_3, self.y_0), self.x_y))
                self.check(f"x = y {word} (x < 3 {inner} y = 0)", (word, self.x_y, (inner, self.x_3, self.y_0)))
                self.check(f"((x < 3 {inner} y = 0) {word} x = y) {inner} y = 0",
                           (inner, (word, (inner, self.x_3, self.y_0), self.x_y), self.y_0))
                self.check(f"x = y {word} (y = 0 {inner} (x = y {word} x < 3))",
                           (word, self.x_y, (inner, self.y_0, (word, self.x_y, self.x_3))))
                self.check(f"(x < 3 {inner} y = 0) {word} (y = 0 {inner} x < 3)",
                           (word, (inner, self.x_3, self.y_0), (inner, self.y_0, self.x_3)))
        self.check("not ((x < 3 or y = 0) and x = y)", ("not", ("and", ("or", self.x_3, self.y_0), self.x_y)))

    def test_eight_comparisons_six_deep(self):
        self.check("x < 3 and (x < 3 or (x < 3 and (x < 3 or not (x < 3 and x < 3 and x < 3 and x < 3))))",
                   ("and", self.x_3, ("or", self.x_3, ("and", self.x_3, ("or", self.x_3,
                                                                         ("not", ("and",) + (self.x_3,) * 4))))))

    def test_other_brackets(self):
        self.check_refused("(x < 3)", "((x < 3))", "(x < 3) and y = 0", "x < 3 and (y = 0)", "(not (x < 3))",
                           "(not (x < 3)) and y = 0", "(x < 3 and y = 0)", "((x < 3 and y = 0))",
                           "((x < 3 and y = 0)) or x = y", "x = y or ((x < 3 and y = 0))", "not ((x < 3))",
                           "not ((x < 3 and y = 0))", "(x) < 3", "x < (3)", "(x + y) < 3", "x + (y) < 3",
                           "not (x < 3)) and (y = 0", "[x < 3 and y = 0] or x = y", "()", "not ()", "() and x < 3")

    def test_brackets_that_are_not_even(self):
        self.check_refused("(x < 3", "x < 3)", "not (x < 3", "not x < 3)", "(x < 3 and y = 0 or x = y",
                           "x < 3 and y = 0) or x = y", "(x < 3 and y = 0)) or x = y", "((x < 3 and y = 0) or x = y",
                           "not (x < 3))", "not ((x < 3)", "x < 3 and )y = 0(", ")x < 3(")

    def test_and_and_or_mixed(self):
        self.check_refused("x < 3 and y = 0 or x = y", "x < 3 or y = 0 and x = y", "x < 3 and y = 0 and x = y or x < 3",
                           "not (x < 3 and y = 0 or x = y)", "x < 3 and (x < 3 and y = 0 or x = y)",
                           "(x < 3 or x = y) and y = 0 or x = y")

    def test_missing_parts(self):
        self.check_refused("", "x", "3", "x <", "< 3", "<", "not", "not (x)", "not x < 3", "x < 3 and", "and x < 3",
                           "and", "x < 3 and and y = 0", "x < 3 y = 0", "x < 3 or", "or", "x < 3 and x", "x and y = 0",
                           "not not (x < 3)", "x < 3 not (y = 0)", "not (x < 3) (y = 0)", "not (x < 3) y = 0",
                           "x < 3 and not", "x < 3 and not y = 0", "x < not (y = 0)")

    def test_other_signs(self):
        self.check_refused("x == 3", "x <> 3", "x => 3", "x =< 3", "x ! 3", "x ~ 3", "x !== 3", "x << 3", "x < 3 < 4",
                           "x = y = z", "x < 3 & y = 0", "x < 3 AND y = 0", "x < 3, y = 0", "x < 3 xor y = 0",
                           "x < = 3", "x div 2 = 0", "x at 2 = 0", "a at x < 3")

    def test_wrong_blanks(self):
        self.check_refused("x< 3", "x <3", "x<3", "x  < 3", "x <  3", " x < 3", "x < 3 ", "not(x < 3)", "not  (x < 3)",
                           "not ( x < 3)", "not (x < 3 )", "x < 3  and y = 0", "x < 3 and  y = 0", "x < 3and y = 0",
                           "x < 3 and(y = 0 or x = y)", "( x < 3 and y = 0) or x = y", "(x < 3 and y = 0 ) or x = y",
                           "(x < 3 and y = 0)or x = y", "(x < 3 and y = 0)(or x = y", "x < 3 and not(y = 0)")

    def test_kept_words(self):
        for word in KEPT:
            self.check_refused(f"{word} < 3", f"3 < {word}", f"x + {word} = 3", f"#{word} = 3")

    def test_sums_of_no_form(self):
        self.check_refused("x < 03", "x < 1234567890", f"{NINES} + 1 < x", f"x < {NINES}*y + y", "x + < 3", "x < - 3")

    def test_what_is_drawn(self):
        chance = random.Random(14)
        drawn = Drawn(chance)
        for _ in range(300):
            (loose, strict), told = drawn.condition(5)
            self.check(loose, told)
            self.check(strict, told)


if __name__ == "__main__":
    unittest.main()
