import unittest

from holdwright.conditions import Every
from holdwright.steps import Call, Choose, Claim, Divide, Fetch, Let, Make, Put, Repeat, Step
from holdwright.sums import Sum
from support import as_sum, compare, total

KINDS = (Let, Divide, Fetch, Put, Make, Claim, Choose, Repeat, Call)

X_1 = total(1, x=2)
X_1_TOLD = ((("x", 2),), 1)
LENGTH = as_sum("#a")
LENGTH_TOLD = ((("#a", 1),), 0)
LOW = compare("x", "<", 3)
LOW_TOLD = ("compare", ((("x", 1),), 0), "<", ((), 3))
HIGH = compare("x", ">=", "#a")
HIGH_TOLD = ("compare", ((("x", 1),), 0), ">=", LENGTH_TOLD)
LET = Let(4, "x", X_1)
LET_TOLD = ("let", 4, "x", X_1_TOLD)
CLAIM = Claim(5, LOW)
CLAIM_TOLD = ("claim", 5, LOW_TOLD)


class FieldTest(unittest.TestCase):
    def check(self, step, told, **fields):
        self.assertIsInstance(step, Step)
        for name, value in fields.items():
            self.assertEqual(getattr(step, name), value, name)
            self.assertIs(type(getattr(step, name)), type(value), name)
        self.assertEqual(step.told(), told)
        self.assertIs(type(step.told()), tuple)

    def test_each_is_a_step(self):
        for kind in KINDS:
            self.assertTrue(issubclass(kind, Step))
            for other in KINDS:
                self.assertEqual(issubclass(kind, other), kind is other)

    def test_the_documents_own(self):
        self.assertEqual(Let(3, "x", total(1, y=2)).told(), ("let", 3, "x", ((("y", 2),), 1)))

    def test_let(self):
        self.check(Let(3, "x", X_1), ("let", 3, "x", X_1_TOLD), at=3, name="x", total=X_1)

    def test_divide(self):
        for word in ("div", "mod"):
            self.check(Divide(3, "x", word, X_1, LENGTH), ("divide", 3, "x", word, X_1_TOLD, LENGTH_TOLD),
                       at=3, name="x", word=word, total=X_1, by=LENGTH)

    def test_fetch(self):
        self.check(Fetch(3, "x", "a", X_1), ("fetch", 3, "x", "a", X_1_TOLD), at=3, name="x", row="a", place=X_1)

    def test_put(self):
        self.check(Put(3, "a", X_1, LENGTH), ("put", 3, "a", X_1_TOLD, LENGTH_TOLD),
                   at=3, row="a", place=X_1, total=LENGTH)

    def test_make(self):
        self.check(Make(3, "a", X_1), ("make", 3, "a", X_1_TOLD), at=3, row="a", size=X_1)

    def test_claim(self):
        self.check(Claim(3, LOW), ("claim", 3, LOW_TOLD), at=3, condition=LOW)

    def test_choose(self):
        self.check(Choose(3, LOW, (LET, CLAIM), (CLAIM,)),
                   ("choose", 3, LOW_TOLD, (LET_TOLD, CLAIM_TOLD), (CLAIM_TOLD,)),
                   at=3, condition=LOW, then=(LET, CLAIM), other=(CLAIM,))
        self.check(Choose(3, LOW, (LET,), ()), ("choose", 3, LOW_TOLD, (LET_TOLD,), ()), then=(LET,), other=())

    def test_repeat(self):
        self.check(Repeat(3, LOW, ((4, LOW), (5, HIGH)), (6, X_1), (LET, CLAIM)),
                   ("repeat", 3, LOW_TOLD, ((4, LOW_TOLD), (5, HIGH_TOLD)), (6, X_1_TOLD), (LET_TOLD, CLAIM_TOLD)),
                   at=3, condition=LOW, keeps=((4, LOW), (5, HIGH)), falls=(6, X_1), body=(LET, CLAIM))

    def test_repeat_without_falls(self):
        self.check(Repeat(3, LOW, ((4, LOW),), None, (LET,)),
                   ("repeat", 3, LOW_TOLD, ((4, LOW_TOLD),), None, (LET_TOLD,)), falls=None)

    def test_call(self):
        self.check(Call(3, ("x", "y"), "f", (X_1, LENGTH)), ("call", 3, ("x", "y"), "f", (X_1_TOLD, LENGTH_TOLD)),
                   at=3, names=("x", "y"), helper="f", given=(X_1, LENGTH))
        self.check(Call(3, (), "f", ()), ("call", 3, (), "f", ()), names=(), given=())

    def test_empty_blocks(self):
        self.check(Choose(0, LOW, (), ()), ("choose", 0, LOW_TOLD, (), ()), then=(), other=())
        self.check(Repeat(0, LOW, (), None, ()), ("repeat", 0, LOW_TOLD, (), None, ()), keeps=(), body=())
        self.check(Choose(0, LOW, [], []), ("choose", 0, LOW_TOLD, (), ()), then=(), other=())
        self.check(Repeat(0, LOW, [], None, []), ("repeat", 0, LOW_TOLD, (), None, ()), keeps=(), body=())
        self.check(Call(0, [], "f", []), ("call", 0, (), "f", ()), names=(), given=())

    def test_blocks_within_one_another(self):
        step, told = LET, LET_TOLD
        for depth in range(5):
            step = Repeat(depth, LOW, [(depth, HIGH)], None, [Choose(depth, HIGH, [CLAIM], [step, LET])])
            told = ("repeat", depth, LOW_TOLD, ((depth, HIGH_TOLD),), None,
                    (("choose", depth, HIGH_TOLD, (CLAIM_TOLD,), (told, LET_TOLD)),))
        self.check(step, told)

    def test_told_of_great_numbers(self):
        great = 10 ** 400
        self.assertEqual(Let(3, "x", total(great)).told(), ("let", 3, "x", ((), great)))

    def test_names_of_arguments(self):
        self.assertEqual(Let(at=1, name="x", total=X_1).told()[1], 1)
        self.assertEqual(Divide(at=1, name="x", word="div", total=X_1, by=LENGTH).by, LENGTH)
        self.assertEqual(Fetch(at=1, name="x", row="a", place=X_1).row, "a")
        self.assertEqual(Put(at=1, row="a", place=X_1, total=LENGTH).total, LENGTH)
        self.assertEqual(Make(at=1, row="a", size=X_1).size, X_1)
        self.assertEqual(Claim(at=1, condition=LOW).condition, LOW)
        self.assertEqual(Choose(at=1, condition=LOW, then=(LET,), other=()).then, (LET,))
        self.assertEqual(Repeat(at=1, condition=LOW, keeps=(), falls=None, body=(LET,)).body, (LET,))
        self.assertEqual(Call(at=1, names=("x",), helper="f", given=()).names, ("x",))


class HandedInTest(unittest.TestCase):
    def test_choose(self):
        then, other = [LET, CLAIM], [CLAIM]
        step = Choose(3, LOW, then, other)
        told = step.told()
        self.assertEqual((then, other), ([LET, CLAIM], [CLAIM]))
        then.clear()
        other.append(LET)
        self.assertEqual((step.then, step.other), ((LET, CLAIM), (CLAIM,)))
        self.assertEqual(step.told(), told)

    def test_repeat(self):
        keeps, body = [[4, LOW], (5, HIGH)], [LET]
        step = Repeat(3, LOW, keeps, [6, X_1], body)
        told = step.told()
        self.assertEqual(told, ("repeat", 3, LOW_TOLD, ((4, LOW_TOLD), (5, HIGH_TOLD)), (6, X_1_TOLD), (LET_TOLD,)))
        self.assertEqual((keeps, body), ([[4, LOW], (5, HIGH)], [LET]))
        keeps.clear()
        body.append(CLAIM)
        self.assertEqual((step.keeps, step.body), (((4, LOW), (5, HIGH)), (LET,)))
        self.assertEqual(tuple(step.falls), (6, X_1))
        self.assertEqual(step.told(), told)

    def test_a_falls_list_is_kept(self):
        falls = [6, X_1]
        self.assertIs(Repeat(3, LOW, [], falls, []).falls, falls)
        self.assertEqual(falls, [6, X_1])

    def test_call(self):
        names, given = ["x", "y"], [X_1, LENGTH]
        step = Call(3, names, "f", given)
        told = step.told()
        self.assertEqual((names, given), (["x", "y"], [X_1, LENGTH]))
        names.reverse()
        given.clear()
        self.assertEqual((step.names, step.given), (("x", "y"), (X_1, LENGTH)))
        self.assertEqual(step.told(), told)

    def test_sums_and_conditions_of_lists(self):
        step = Repeat(3, Every([LOW, HIGH]), [[4, LOW]], [5, Sum([["x", 2]], 1)], [Let(6, "x", Sum([["x", 2]], 1))])
        self.assertEqual(step.told(), ("repeat", 3, ("and", LOW_TOLD, HIGH_TOLD), ((4, LOW_TOLD),), (5, X_1_TOLD),
                                       (("let", 6, "x", X_1_TOLD),)))

    def test_telling_changes_nothing(self):
        step = Repeat(3, LOW, [(4, LOW)], (6, X_1), [Choose(7, HIGH, [LET], []), Call(9, ["x"], "f", [LENGTH])])
        self.assertEqual(step.told(), step.told())


if __name__ == "__main__":
    unittest.main()
