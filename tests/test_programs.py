import random
import unittest

from holdwright.conditions import Every, Some, Turned
from holdwright.programs import Helper, Program, written
from holdwright.steps import Call, Choose, Claim, Divide, Fetch, Let, Make, Put, Repeat
from support import Drawn, as_sum, built, compare, text_of, total

LOW = compare("x", "<", 3)
HIGH = compare("x", ">=", "#a")
EITHER = Some([LOW, Every([HIGH, Turned(LOW)])])
MIXED = total(-3, x=-2, y=1, **{"#a": 1})


def helper(name="f", params=(), answers=(), needs=(), gives=(), steps=(), at=0):
    return Helper(at, name, params, answers, needs, gives, steps)


class HelperTest(unittest.TestCase):
    let = Let(5, "y", total(1, x=2))
    let_told = ("let", 5, "y", ((("x", 2),), 1))

    def test_fields_and_told(self):
        made = Helper(2, "f", ("x", "#a"), ("y", "z"), ((3, LOW),), ((4, HIGH), (5, LOW)), (self.let,))
        self.assertEqual((made.at, made.name, made.params, made.answers, made.needs, made.gives, made.steps),
                         (2, "f", ("x", "#a"), ("y", "z"), ((3, LOW),), ((4, HIGH), (5, LOW)), (self.let,)))
        self.assertEqual(made.told(), ("helper", 2, "f", ("x", "#a"), ("y", "z"), ((3, LOW.told()),),
                                       ((4, HIGH.told()), (5, LOW.told())), (self.let_told,)))

    def test_nothing_in_it(self):
        self.assertEqual(helper().told(), ("helper", 0, "f", (), (), (), (), ()))
        self.assertEqual(Helper(0, "f", [], [], [], [], []).told(), ("helper", 0, "f", (), (), (), (), ()))

    def test_lists_are_not_kept_nor_changed(self):
        params, answers, needs, gives, steps = ["x", "#a"], ["y"], [[3, LOW]], [(4, HIGH)], [self.let]
        handed = (params, answers, needs, gives, steps)
        made = Helper(2, "f", *handed)
        told = made.told()
        self.assertEqual(handed, (["x", "#a"], ["y"], [[3, LOW]], [(4, HIGH)], [self.let]))
        for one in handed:
            one.clear()
        self.assertEqual((made.params, made.answers, made.needs, made.gives, made.steps),
                         (("x", "#a"), ("y",), ((3, LOW),), ((4, HIGH),), (self.let,)))
        self.assertEqual(made.told(), told)

    def test_names_of_arguments(self):
        made = Helper(at=1, name="f", params=["x"], answers=["y"], needs=[], gives=[], steps=[])
        self.assertEqual(made.told(), ("helper", 1, "f", ("x",), ("y",), (), (), ()))


class ProgramTest(unittest.TestCase):
    def setUp(self):
        self.first, self.second, self.third = helper("f"), helper("g", at=2), helper("f", ("x",), at=4)

    def test_helpers_and_told(self):
        for handed in ([self.first, self.second], (self.first, self.second)):
            program = Program(handed)
            self.assertEqual(program.helpers, (self.first, self.second))
            self.assertIs(type(program.helpers), tuple)
            self.assertEqual(program.told(), (self.first.told(), self.second.told()))
            self.assertIs(type(program.told()), tuple)

    def test_a_list_is_not_kept_nor_changed(self):
        handed = [self.first, self.second]
        program = Program(handed)
        written(program)
        self.assertEqual(handed, [self.first, self.second])
        handed.reverse()
        self.assertEqual(program.helpers, (self.first, self.second))

    def test_named(self):
        program = Program([self.second, self.first, self.third])
        self.assertIs(program.named("g"), self.second)
        self.assertIs(program.named("f"), self.first)
        self.assertIs(Program([self.third, self.first]).named("f"), self.third)

    def test_named_without_one(self):
        program = Program([self.second, self.first])
        for name in ("h", "", "F", "fg", "ff", "helper"):
            self.assertIsNone(program.named(name))
        self.assertIsNone(Program([]).named("f"))

    def test_names_of_arguments(self):
        program = Program(helpers=[self.first])
        self.assertIs(program.named(name="f"), self.first)
        self.assertEqual(written(program=program), "helper f\nend\n")


class WrittenTest(unittest.TestCase):
    def check(self, steps, *rows):
        self.assertEqual(written(Program([helper(steps=steps)])), text_of("helper f", *rows, "end"))

    def test_heads(self):
        for params, answers, rows in (((), (), ["helper f"]), (("x",), (), ["helper f x"]),
                                      (("x", "#a", "y"), (), ["helper f x #a y"]),
                                      ((), ("y",), ["helper f", "answers y"]),
                                      (("#a",), ("x", "y", "z"), ["helper f #a", "answers x y z"])):
            self.assertEqual(written(Program([helper("f", params, answers)])), text_of(*rows, "end"))

    def test_needs_and_gives(self):
        made = helper("f", ["x"], ["y"], [(9, LOW), (3, EITHER)], [(1, HIGH), (1, LOW)])
        self.assertEqual(written(Program([made])), text_of(
            "helper f x", "answers y", "needs x < 3", "needs x < 3 or (x >= #a and not (x < 3))",
            "gives x >= #a", "gives x < 3", "end"))

    def test_several_helpers(self):
        self.assertEqual(written(Program([helper("f", ["x"]), helper("g", [], ["y"]), helper("f")])),
                         text_of("helper f x", "end", "helper g", "answers y", "end", "helper f", "end"))

    def test_let(self):
        self.check([Let(0, "x", MIXED)], "let x = #a - 2*x + y - 3")
        self.check([Let(0, "x", total())], "let x = 0")
        self.check([Let(0, "x", total(0, y=-1))], "let x = -y")

    def test_divide(self):
        self.check([Divide(0, "x", "div", MIXED, total(-2))], "let x = #a - 2*x + y - 3 div -2")
        self.check([Divide(0, "x", "mod", as_sum("y"), MIXED)], "let x = y mod #a - 2*x + y - 3")

    def test_fetch_and_put_and_make(self):
        self.check([Fetch(0, "x", "a", MIXED)], "let x = a at #a - 2*x + y - 3")
        self.check([Put(0, "a", MIXED, total(-1))], "put a at #a - 2*x + y - 3 = -1")
        self.check([Put(0, "a", total(4), MIXED)], "put a at 4 = #a - 2*x + y - 3")
        self.check([Make(0, "a", MIXED)], "row a = #a - 2*x + y - 3")

    def test_claim(self):
        self.check([Claim(0, LOW)], "claim x < 3")
        self.check([Claim(0, Turned(EITHER))], "claim not (x < 3 or (x >= #a and not (x < 3)))")

    def test_choose(self):
        let, claim = Let(0, "x", total(1)), Claim(0, LOW)
        self.check([Choose(0, LOW, [], [])], "if x < 3", "end")
        self.check([Choose(0, LOW, [let, claim], [])], "if x < 3", "let x = 1", "claim x < 3", "end")
        self.check([Choose(0, LOW, [let], [claim, let])],
                   "if x < 3", "let x = 1", "else", "claim x < 3", "let x = 1", "end")
        self.check([Choose(0, EITHER, [], [claim])],
                   "if x < 3 or (x >= #a and not (x < 3))", "else", "claim x < 3", "end")

    def test_repeat(self):
        let = Let(0, "x", total(1))
        self.check([Repeat(0, LOW, [], None, [])], "while x < 3", "end")
        self.check([Repeat(0, LOW, [(0, HIGH), (0, LOW)], None, [let])],
                   "while x < 3", "holds x >= #a", "holds x < 3", "let x = 1", "end")
        self.check([Repeat(0, LOW, [], (0, MIXED), [let, let])],
                   "while x < 3", "falls #a - 2*x + y - 3", "let x = 1", "let x = 1", "end")
        self.check([Repeat(0, LOW, [(0, HIGH)], (0, total(3, x=-1)), [])],
                   "while x < 3", "holds x >= #a", "falls -x + 3", "end")

    def test_a_falls_list(self):
        self.check([Repeat(0, LOW, [], [0, total(3, x=-1)], [])], "while x < 3", "falls -x + 3", "end")

    def test_call(self):
        self.check([Call(0, ["x", "y"], "g", [MIXED, as_sum("#a")])], "call x y = g #a - 2*x + y - 3, #a")
        self.check([Call(0, ["x"], "g", [])], "call x = g")
        self.check([Call(0, [], "g", [])], "call g")
        self.check([Call(0, [], "g", [total(), total(-1), as_sum("z")])], "call g 0, -1, z")

    def test_blocks_within_one_another(self):
        step, rows = Let(0, "x", total(1)), ["let x = 1"]
        for depth in range(5):
            if depth % 2 == 0:
                step = Choose(0, LOW, [step], [step, Call(0, [], "g", [])])
                rows = ["if x < 3", *rows, "else", *rows, "call g", "end"]
            else:
                step = Repeat(0, HIGH, [(0, LOW)], None, [step, Call(0, [], "g", [])])
                rows = ["while x >= #a", "holds x < 3", *rows, "call g", "end"]
        self.check([step, Claim(0, LOW)], *rows, "claim x < 3")

    def test_written_of_what_is_drawn(self):
        chance = random.Random(16)
        for _ in range(150):
            drawn = Drawn(chance)
            program = Program([built(one) for one in drawn.told])
            self.assertEqual(program.told(), drawn.told)
            self.assertEqual(written(program), text_of(*drawn.strict))
            self.assertEqual(program.told(), drawn.told)


if __name__ == "__main__":
    unittest.main()
