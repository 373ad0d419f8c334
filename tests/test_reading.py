import random
import unittest

from holdwright.errors import NoText, WritError
from holdwright.programs import Program, written
from holdwright.reading import read
from support import KEPT, Drawn, refused_at, text_of, told_step

WHOLE = text_of(
    "helper least #a x",           # 0
    "answers m n",                 # 1
    "needs 1 <= #a",               # 2
    "needs x >= 0 and x < #a",     # 3
    "gives m <= x",                # 4
    "gives 0 <= n or n = -1",      # 5
    "let m = a at x",              # 6
    "while n < #a",                # 7
    "holds 0 <= n",                # 8
    "holds n <= #a",               # 9
    "falls #a - n",                # 10
    "let z = a at n",              # 11
    "if z < m",                    # 12
    "let m = z",                   # 13
    "else",                        # 14
    "put a at n = m",              # 15
    "end",                         # 16
    "let n = n + 1",               # 17
    "end",                         # 18
    "end",                         # 19
    "helper main",                 # 20
    "row b = 10",                  # 21
    "claim #b = 10",               # 22
    "call u v = least #b, 2",      # 23
    "let q = u div 3",             # 24
    "let r = u mod v + 1",         # 25
    "call least #b, v",            # 26
    "end",                         # 27
)


def thing(name, weight=1):
    return (((name, weight),), 0)


def number(value):
    return ((), value)


X_3 = ("compare", thing("x"), "<", number(3))


class ReadTest(unittest.TestCase):
    def test_whole(self):
        program = read(WHOLE)
        self.assertIsInstance(program, Program)
        least, main = program.told()
        length, n = thing("#a"), thing("n")
        self.assertEqual(least[:5], ("helper", 0, "least", ("#a", "x"), ("m", "n")))
        self.assertEqual(least[5], (
            (2, ("compare", number(1), "<=", length)),
            (3, ("and", ("compare", thing("x"), ">=", number(0)), ("compare", thing("x"), "<", length)))))
        self.assertEqual(least[6], (
            (4, ("compare", thing("m"), "<=", thing("x"))),
            (5, ("or", ("compare", number(0), "<=", n), ("compare", n, "=", number(-1))))))
        choose = ("choose", 12, ("compare", thing("z"), "<", thing("m")),
                  (("let", 13, "m", thing("z")),), (("put", 15, "a", n, thing("m")),))
        self.assertEqual(least[7], (
            ("fetch", 6, "m", "a", thing("x")),
            ("repeat", 7, ("compare", n, "<", length),
             ((8, ("compare", number(0), "<=", n)), (9, ("compare", n, "<=", length))),
             (10, ((("#a", 1), ("n", -1)), 0)),
             (("fetch", 11, "z", "a", n), choose, ("let", 17, "n", ((("n", 1),), 1))))))
        self.assertEqual(main, ("helper", 20, "main", (), (), (), (), (
            ("make", 21, "b", number(10)),
            ("claim", 22, ("compare", thing("#b"), "=", number(10))),
            ("call", 23, ("u", "v"), "least", (thing("#b"), number(2))),
            ("divide", 24, "q", "div", thing("u"), number(3)),
            ("divide", 25, "r", "mod", thing("u"), ((("v", 1),), 1)),
            ("call", 26, (), "least", (thing("#b"), thing("v"))))))
        self.assertEqual(written(program), WHOLE)

    def test_argument_name(self):
        self.assertEqual(read(text="helper f\nend\n").told(), (("helper", 0, "f", (), (), (), (), ()),))

    def test_heads(self):
        for row, name, params in (("helper f", "f", ()), ("helper f x", "f", ("x",)),
                                  ("helper f #f f", "f", ("#f", "f")),
                                  ("helper abcdefgh #abcdefgh x y #x", "abcdefgh", ("#abcdefgh", "x", "y", "#x"))):
            self.assertEqual(read(text_of(row, "end")).told(), (("helper", 0, name, params, (), (), (), ()),))

    def test_parts_of_a_head_left_out(self):
        parts = ("answers x y", "needs x < 3", "needs x < 3", "gives x < 3", "gives x < 3", "claim x < 3")
        for mask in range(64):
            rows = ["helper f"] + [part for place, part in enumerate(parts) if mask >> place & 1] + ["end"]
            told = read(text_of(*rows)).told()[0]
            wanted = [tuple((at, X_3) for at, row in enumerate(rows) if row.startswith(word))
                      for word in ("needs", "gives")]
            self.assertEqual(list(told[5:7]), wanted)
            self.assertEqual(told[4], ("x", "y") if mask & 1 else ())
            self.assertEqual(told[7], (("claim", len(rows) - 2, X_3),) if mask & 32 else ())

    def test_helpers_one_behind_the_other(self):
        told = read(text_of("helper f", "end", "helper g x", "end", "helper f", "let x = 1", "end")).told()
        self.assertEqual([one[1:3] for one in told], [(0, "f"), (2, "g"), (4, "f")])

    def test_let_divide_fetch(self):
        self.assertEqual(told_step("let x = 2*y + 1"), ("let", 1, "x", ((("y", 2),), 1)))
        self.assertEqual(told_step("let x = 2*y + 1 div y - 1"),
                         ("divide", 1, "x", "div", ((("y", 2),), 1), ((("y", 1),), -1)))
        self.assertEqual(told_step("let x = -y mod -3"), ("divide", 1, "x", "mod", thing("y", -1), number(-3)))
        self.assertEqual(told_step("let x = a at #a - 1"), ("fetch", 1, "x", "a", ((("#a", 1),), -1)))
        self.assertEqual(told_step("let x = x at -x"), ("fetch", 1, "x", "x", thing("x", -1)))

    def test_put_make_claim(self):
        self.assertEqual(told_step("put a at x + 1 = -y"), ("put", 1, "a", ((("x", 1),), 1), thing("y", -1)))
        self.assertEqual(told_step("row a = #a + #a"), ("make", 1, "a", thing("#a", 2)))
        self.assertEqual(told_step("claim x < 3"), ("claim", 1, X_3))

    def test_choose(self):
        let, claim = ("let", 2, "x", number(1)), ("claim", 3, X_3)
        self.assertEqual(told_step("if x < 3", "end"), ("choose", 1, X_3, (), ()))
        self.assertEqual(told_step("if x < 3", "let x = 1", "claim x < 3", "end"), ("choose", 1, X_3, (let, claim), ()))
        self.assertEqual(told_step("if x < 3", "let x = 1", "else", "claim x < 3", "call f", "end"),
                         ("choose", 1, X_3, (let,), (("claim", 4, X_3), ("call", 5, (), "f", ()))))
        self.assertEqual(told_step("if x < 3", "else", "claim x < 3", "end"), ("choose", 1, X_3, (), (claim,)))

    def test_repeat(self):
        self.assertEqual(told_step("while x < 3", "end"), ("repeat", 1, X_3, (), None, ()))
        self.assertEqual(told_step("while x < 3", "holds x < 3", "holds x < 3", "end"),
                         ("repeat", 1, X_3, ((2, X_3), (3, X_3)), None, ()))
        self.assertEqual(told_step("while x < 3", "falls 3 - x", "end"),
                         ("repeat", 1, X_3, (), (2, ((("x", -1),), 3)), ()))
        self.assertEqual(told_step("while x < 3", "holds x < 3", "falls x", "let x = 1", "claim x < 3", "end"),
                         ("repeat", 1, X_3, ((2, X_3),), (3, thing("x")),
                          (("let", 4, "x", number(1)), ("claim", 5, X_3))))
        self.assertEqual(told_step("while x < 3", "let x = 1", "end"),
                         ("repeat", 1, X_3, (), None, (("let", 2, "x", number(1)),)))

    def test_call(self):
        self.assertEqual(told_step("call f"), ("call", 1, (), "f", ()))
        self.assertEqual(told_step("call x = f"), ("call", 1, ("x",), "f", ()))
        self.assertEqual(told_step("call x y z = f"), ("call", 1, ("x", "y", "z"), "f", ()))
        self.assertEqual(told_step("call f x"), ("call", 1, (), "f", (thing("x"),)))
        self.assertEqual(told_step("call f #a, -x + 1, 0"),
                         ("call", 1, (), "f", (thing("#a"), ((("x", -1),), 1), number(0))))
        self.assertEqual(told_step("call x x = x x, x"), ("call", 1, ("x", "x"), "x", (thing("x"), thing("x"))))

    def test_blocks_within_one_another(self):
        rows, told = [], ("let", 6, "x", number(1))
        for depth in range(5):
            rows.append("while x < 3" if depth % 2 else "if x < 3")
        for depth in range(5, 0, -1):
            told = ("repeat", depth, X_3, (), None, (told,)) if depth % 2 == 0 else ("choose", depth, X_3, (told,), ())
        self.assertEqual(told_step(*rows, "let x = 1", *["end"] * 5), told)

    def test_else_belongs_to_the_inner_one(self):
        inner = ("choose", 2, X_3, (), (("call", 4, (), "f", ()),))
        self.assertEqual(told_step("if x < 3", "if x < 3", "else", "call f", "end", "else", "call g", "end"),
                         ("choose", 1, X_3, (inner,), (("call", 7, (), "g", ()),)))
        self.assertEqual(told_step("if x < 3", "else", "if x < 3", "end", "end"),
                         ("choose", 1, X_3, (), (("choose", 3, X_3, (), ()),)))

    def test_many_rows(self):
        rows = ["helper f"] + [f"let x = {at}" for at in range(1, 199)] + ["end"]
        told = read(text_of(*rows)).told()
        self.assertEqual(told[0][7], tuple(("let", at, "x", number(at)) for at in range(1, 199)))


class RefusedRowTest(unittest.TestCase):
    """Rows of no form, where a row of that kind may stand."""

    def check(self, rows, ahead=("helper f",), behind=("end",)):
        for row in rows:
            self.assertEqual(refused_at(self, text_of(*ahead, row, *behind)), len(ahead), row)

    def test_it_is_a_refusal(self):
        with self.assertRaises(WritError):
            read("helper\n")

    def test_helper(self):
        self.check(("helper", "helper ", "helper  f", " helper f", "helper f ", "helper f  x", "helper #f", "helper F",
                    "helper f 1", "helper f x,", "helper f ##a", "helper f #", "helper f x = 1", "helper f # a",
                    "helper abcdefghi", "helper f abcdefghi", "helper f #abcdefghi", "helpers f", "Helper f", "f",
                    "helper f\tx", "helper f x+y", "helper f -x"), ahead=())
        self.check([f"helper {word}" for word in KEPT], ahead=())
        self.check([f"helper f {word}" for word in KEPT], ahead=())
        self.check([f"helper f #{word}" for word in KEPT], ahead=())

    def test_answers(self):
        self.check(("answers", "answers ", "answers  x", "answers x ", "answers x  y", "answers #a", "answers 1",
                    "answers x, y", "answers x = 1", "answers abcdefghi", "answer x", " answers x"))
        self.check([f"answers {word}" for word in KEPT] + [f"answers x {word}" for word in KEPT])

    def test_writings(self):
        for word in ("needs", "gives"):
            self.check([word, word + " ", word + " x", word + "  x < 3", " " + word + " x < 3", word + " x < 3 ",
                        word + " x < 3, y < 3", word + "x < 3", word[:-1] + " x < 3", word + " = x < 3"])
        for word in ("holds", "falls"):
            self.check([word, word + " ", word + "  3", " " + word + " 3", word + " x <", word + " x, y", word + "x"],
                       ahead=("helper f", "while x < 3"), behind=("end", "end"))
        self.check(("holds x", "holds 3"), ahead=("helper f", "while x < 3"), behind=("end", "end"))
        self.check(("falls x < 3", "falls x = 3", "falls x div 2", "falls a at 2", "falls (x)"),
                   ahead=("helper f", "while x < 3"), behind=("end", "end"))

    def test_end_and_else(self):
        self.check(("end ", " end", "end x", "end end", "ends", "End", "end;", "end,"))
        self.check(("else ", " else", "else x", "else if x < 3", "elses", "else:", "else let x = 1"),
                   ahead=("helper f", "if x < 3"), behind=("let x = 1", "end", "end"))

    def test_let(self):
        self.check(("let", "let x", "let x =", "let x = ", "let = 3", "let x 3", "let x == 3", "let 3 = x",
                    "let #a = 3", "let x y = 3", "let  x = 3", "let x  = 3", "let x =  3", "let x = 3 ",
                    " let x = 3", "let x= 3",
                    "let x =3", "letx = 3", "let X = 3", "let x := 3", "let x = 3 = 4", "let x = 3;", "let x = y z",
                    "let x is 3", "let x at 3", "let abcdefghi = 3", "let x, y = 3", "let -x = 3", "x = 3",
                    "lets x = 3"))
        self.check([f"let {word} = 3" for word in KEPT] + [f"let x = {word}" for word in KEPT])

    def test_divide(self):
        self.check(("let x = div 3", "let x = 3 div", "let x = div", "let x = 3 div ", "let x = y div z div 2",
                    "let x = y div z mod 2", "let x = y mod z div 2", "let x = y mod z mod 2", "let x = y  div 2",
                    "let x = y div  2", "let x = (y) div 2", "let x = y / 2", "let x = y div (2)", "let x = y rem 2",
                    "let x = y div2", "let x = 3div 2", "let x = y DIV 2", "let x = y + div 2", "div x = 3",
                    "let x = mod y 2"))

    def test_fetch(self):
        self.check(("let x = a at", "let x = at 3", "let x = a at ", "let x = #a at 3", "let x = 3 at 3",
                    "let x = a at at", "let x = a b at 3", "let x = a at 3 at 4", "let x = a at b at 3",
                    "let x = a at 3 div 2", "let x = 3 div a at 2", "let x = a at 3 mod 2",
                    "let x = a at 3 + a at 4", "let x = a  at 3",
                    "let x = a at  3", "let x = 2*a at 3", "let x = -a at 3", "let x = a at (3)", "let x = a[3]",
                    "let x = abcdefghi at 3", "let x = a at 3 = 4", "let x = y + a at 3", "at a 3"))
        self.check([f"let x = {word} at 3" for word in KEPT])

    def test_put(self):
        self.check(("put", "put a", "put a at", "put a at 3", "put a at 3 =", "put a at = 3", "put a = 3",
                    "put at 3 = 3", "put #a at 3 = 3", "put 3 at 3 = 3", "put a at 3 = ", "put  a at 3 = 3",
                    "put a  at 3 = 3", "put a at  3 = 3", "put a at 3  = 3", "put a at 3 =  3", "put a at 3 = 3 ",
                    " put a at 3 = 3", "put a at 3 = 3 = 3", "put a at 3 = 4 div 2", "put a at 3 = b at 2",
                    "put a at 4 mod 3 = 2", "put a b at 3 = 3", "put a 3 = 3", "put a at 3 3", "put a at 3 == 3",
                    "put abcdefghi at 3 = 3", "put a = at 3", "put a at 3= 3", "put 3 = a at 3", "put a on 3 = 3",
                    "put a to 3 = 3", "put a = 3 = 3", "put a + 3 = 3", "put a at 3 to 3"))
        self.check([f"put {word} at 3 = 3" for word in KEPT])

    def test_make(self):
        self.check(("row", "row a", "row a =", "row a = ", "row = 3", "row a 3", "row #a = 3", "row 3 = 3",
                    "row a b = 3", "row  a = 3", "row a  = 3", "row a =  3", "row a = 3 ", " row a = 3",
                    "row a = 3 div 2", "row a = b at 3", "row a = 3 = 3", "row abcdefghi = 3", "rows a = 3",
                    "row a at 3", "row a := 3",
                    "row a of 3"))
        self.check([f"row {word} = 3" for word in KEPT])

    def test_claim(self):
        self.check(("claim", "claim ", "claim x", "claim  x < 3", "claim x < 3 ", " claim x < 3", "claims x < 3",
                    "claim = x < 3", "claim x < 3, x < 4", "claimx < 3", "claim x div 2 = 0", "assume x < 3"))

    def test_if_and_while(self):
        for word in ("if", "while"):
            self.check([word, word + " ", word + " x", word + "  x < 3", word + " x < 3 ", " " + word + " x < 3",
                        word + " x < 3:", word + " x < 3 then", word + " (x < 3)", word.upper() + " x < 3"],
                       behind=("end", "end"))
        self.check(("if not x < 3", "while true", "loop", "for x < 3", "elif x < 3"), behind=("end", "end"))

    def test_call(self):
        self.check(("call", "call ", "call x =", "call x = ", "call = f", "call = f x", "call =", "call #a", "call 3",
                    "call #a = f", "call 3 = f", "call x, y = f", "call x = #a", "call x = 3", "call x = f = g",
                    "call  f", "call f ", " call f", "call x  = f", "call x =  f", "call f  x", "call f x ",
                    "call x y == f", "call f x,", "call f x, ", "call f , x", "call f, x", "call f x,y",
                    "call f x , y", "call f x,  y",
                    "call f x y", "call f x,, y", "call f x, , y", "call f ,", "call f (x)", "call f(x)", "call f x; y",
                    "call f x < 3", "call f x div 2", "call f a at 3", "call abcdefghi", "call abcdefghi = f", "f x",
                    "call x = f y z"))
        self.check([f"call {word}" for word in KEPT] + [f"call {word} = f" for word in KEPT])
        self.check([f"call x = {word}" for word in KEPT] + [f"call f {word}" for word in KEPT])

    def test_empty_and_other_rows(self):
        self.check(("", " ", "  ", "#", "# words", "x", "3", "skip", "return x", "let x = 1 let y = 2", "\t", ";",
                    "let x = 1; let y = 2", "and", "or", "not", "at", "div", "=", "(", ")"))


class PlaceTest(unittest.TestCase):
    """Rows that can't stand where they are, and rows that are missing."""

    def check(self, at, *rows):
        self.assertEqual(refused_at(self, text_of(*rows)), at, rows)

    def test_outside_a_helper(self):
        for row in ("let x = 1", "put a at 1 = 1", "row a = 1", "claim x < 3", "if x < 3", "while x < 3", "call f",
                    "end", "else", "answers x", "needs x < 3", "gives x < 3", "holds x < 3", "falls x"):
            self.check(0, row)
            self.check(0, row, "end")
            self.check(2, "helper f", "end", row)
            self.check(2, "helper f", "end", row, "end", "helper g", "end")

    def test_helper_within_a_helper(self):
        for ahead in ((), ("answers x",), ("needs x < 3",), ("gives x < 3",), ("let x = 1",), ("if x < 3",),
                      ("while x < 3",), ("while x < 3", "falls x"), ("if x < 3", "else"), ("if x < 3", "end")):
            self.check(1 + len(ahead), "helper f", *ahead, "helper g", "end")

    def test_answers_out_of_order(self):
        for ahead in ("answers x", "needs x < 3", "gives x < 3", "let x = 1", "if x < 3", "while x < 3"):
            self.check(2, "helper f", ahead, "answers y", "end", "end")

    def test_needs_out_of_order(self):
        for ahead in ("gives x < 3", "let x = 1", "if x < 3", "while x < 3"):
            self.check(2, "helper f", ahead, "needs x < 3", "end", "end")

    def test_gives_out_of_order(self):
        for ahead in ("let x = 1", "if x < 3", "while x < 3"):
            self.check(2, "helper f", ahead, "gives x < 3", "end", "end")

    def test_holds_and_falls_out_of_place(self):
        for row in ("holds x < 3", "falls x"):
            self.check(1, "helper f", row, "end")
            self.check(2, "helper f", "needs x < 3", row, "end")
            self.check(2, "helper f", "if x < 3", row, "end", "end")
            self.check(3, "helper f", "if x < 3", "else", row, "end", "end")
            self.check(3, "helper f", "while x < 3", "let x = 1", row, "end", "end")
            self.check(3, "helper f", "while x < 3", "falls x", row, "end", "end")
            self.check(4, "helper f", "while x < 3", "holds x < 3", "claim x < 3", row, "end", "end")
            self.check(4, "helper f", "while x < 3", "if x < 3", "end", row, "end", "end")
            self.check(3, "helper f", "while x < 3", "end", row, "end")

    def test_else_out_of_place(self):
        self.check(1, "helper f", "else", "end")
        self.check(2, "helper f", "let x = 1", "else", "end")
        self.check(2, "helper f", "while x < 3", "else", "let x = 1", "end", "end")
        self.check(3, "helper f", "while x < 3", "let x = 1", "else", "let x = 1", "end", "end")
        self.check(3, "helper f", "if x < 3", "end", "else", "let x = 1", "end", "end")
        self.check(3, "helper f", "if x < 3", "while x < 3", "else", "let x = 1", "end", "end", "end")

    def test_else_twice(self):
        self.check(3, "helper f", "if x < 3", "else", "else", "let x = 1", "end", "end")
        self.check(4, "helper f", "if x < 3", "else", "let x = 1", "else", "let x = 1", "end", "end")

    def test_no_step_behind_else(self):
        self.check(3, "helper f", "if x < 3", "else", "end", "end")
        self.check(4, "helper f", "if x < 3", "let x = 1", "else", "end", "end")
        self.check(5, "helper f", "if x < 3", "else", "if x < 3", "else", "end", "end", "end")

    def test_end_too_often(self):
        self.check(2, "helper f", "end", "end")
        self.check(4, "helper f", "if x < 3", "end", "end", "end")

    def test_rows_missing(self):
        self.check(1, "helper f")
        self.check(2, "helper f", "answers x")
        self.check(2, "helper f", "needs x < 3")
        self.check(2, "helper f", "gives x < 3")
        self.check(2, "helper f", "let x = 1")
        self.check(3, "helper f", "if x < 3", "end")
        self.check(2, "helper f", "if x < 3")
        self.check(3, "helper f", "if x < 3", "else")
        self.check(4, "helper f", "if x < 3", "else", "let x = 1")
        self.check(2, "helper f", "while x < 3")
        self.check(3, "helper f", "while x < 3", "holds x < 3")
        self.check(3, "helper f", "while x < 3", "falls x")
        self.check(3, "helper f", "end", "helper g")

    def test_each_beginning_of_a_whole_one(self):
        rows = WHOLE.split("\n")[:-1]
        for count in range(len(rows)):
            if count == 20:
                self.assertEqual(len(read(text_of(*rows[:count])).helpers), 1)
            else:
                self.check(count, *rows[:count])

    def test_empty_text(self):
        self.check(0)
        self.assertEqual(refused_at(self, ""), 0)

    def test_empty_rows(self):
        self.check(0, "")
        self.check(0, "", "helper f", "end")
        self.check(1, "helper f", "", "end")
        self.check(2, "helper f", "end", "")
        self.check(2, "helper f", "end", "", "helper g", "end")

    def test_something_behind_the_last_line_end(self):
        self.assertEqual(refused_at(self, "helper f\nend"), 1)
        self.assertEqual(refused_at(self, "helper f"), 0)
        self.assertEqual(refused_at(self, "x"), 0)
        self.assertEqual(refused_at(self, " "), 0)
        for behind in (" ", "x", "end", "helper g", "#", "let x = 1"):
            self.assertEqual(refused_at(self, "helper f\nend\n" + behind), 2)
            self.assertEqual(refused_at(self, "helper f\n" + behind), 1)
            self.assertEqual(refused_at(self, WHOLE + behind), 28)
        self.assertEqual(refused_at(self, WHOLE[:-1]), 27)

    def test_the_first_of_several(self):
        self.check(1, "helper f", "let x =", "let y =", "end")
        self.check(1, "helper f", "else", "let y =", "end")
        self.check(1, "helper f", "let x =", "else")
        self.check(2, "helper f", "if x < 3", "holds x < 3", "else", "end", "let")
        self.check(0, "helper 1", "let x =")
        self.assertEqual(refused_at(self, "helper f\nlet x =\nend"), 1)
        self.assertEqual(refused_at(self, "helper f\nelse\nend\nx"), 1)

    def test_a_wrong_row_put_in_anywhere(self):
        rows = WHOLE.split("\n")[:-1]
        for place in range(len(rows) + 1):
            for row in ("", "let x =", "let end = 3", "helper", "end end", "call f x,"):
                self.check(place, *rows[:place], row, *rows[place:])


class RoundTest(unittest.TestCase):
    def test_what_is_drawn(self):
        chance = random.Random(12)
        for _ in range(250):
            drawn = Drawn(chance)
            program = read(text_of(*drawn.loose))
            self.assertEqual(program.told(), drawn.told)
            text = written(program)
            self.assertEqual(text, text_of(*drawn.strict))
            again = read(text)
            self.assertEqual(again.told(), drawn.told)
            self.assertEqual(written(again), text)

    def test_reading_again_tells_the_same(self):
        one, other = read(WHOLE), read(WHOLE)
        self.assertIsNot(one, other)
        self.assertEqual(one.told(), other.told())
        with self.assertRaises(NoText):
            read(WHOLE + "x")
        self.assertEqual(one.told(), other.told())


if __name__ == "__main__":
    unittest.main()
