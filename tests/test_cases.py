import random
import unittest

from holdwright.conditions import Every, Some, Turned
from holdwright.errors import Fault, NoRun, NoSense, NoText, TooHard, TooMany, WritError
from holdwright.sums import Sum
from support import OPPOSITES, SIGNS, compare, drawn_condition, grid, met, told_cases, total

GREAT = 10 ** 300


def below(thing):
    return compare(thing, "<", 0)


def unlike(thing):
    return compare(thing, "!=", 0)


def case_below(thing):
    return ((((thing, -1),), -1),)


def case_above(thing):
    return ((((thing, 1),), -1),)


class CompareTest(unittest.TestCase):
    # Of 2*x + 1 and y - 3: the one, the other, and each less the other.
    one = total(1, x=2)
    other = total(-3, y=1)
    rise = ((("x", -2), ("y", 1)), -4)
    drop = ((("x", 2), ("y", -1)), 4)
    strict_rise = ((("x", -2), ("y", 1)), -5)
    strict_drop = ((("x", 2), ("y", -1)), 3)

    def wanted(self, sign):
        return {
            "<": [(self.strict_rise,)],
            "<=": [(self.rise,)],
            ">": [(self.strict_drop,)],
            ">=": [(self.drop,)],
            "=": [(self.rise, self.drop)],
            "!=": [(self.strict_rise,), (self.strict_drop,)],
        }[sign]

    def test_each_sign(self):
        for sign in SIGNS:
            self.assertEqual(told_cases(compare(self.one, sign, self.other).cases()), self.wanted(sign), sign)

    def test_turned(self):
        for sign in SIGNS:
            made = compare(self.one, sign, self.other)
            self.assertEqual(told_cases(Turned(made).cases()), self.wanted(OPPOSITES[sign]), sign)
            self.assertEqual(told_cases(Turned(Turned(made)).cases()), self.wanted(sign), sign)

    def test_kinds(self):
        for sign in SIGNS:
            cases = compare(self.one, sign, self.other).cases()
            self.assertIs(type(cases), list)
            for case in cases:
                self.assertIs(type(case), tuple)
                for one in case:
                    self.assertIsInstance(one, Sum)

    def test_sums_without_terms_stay(self):
        self.assertEqual(told_cases(compare("x", "<", "x").cases()), [(((), -1),)])
        self.assertEqual(told_cases(compare(2, "=", 5).cases()), [(((), 3), ((), -3))])

    def test_great_numbers(self):
        self.assertEqual(told_cases(compare("x", "<", GREAT).cases()), [(((("x", -1),), GREAT - 1),)])


class SeveralTest(unittest.TestCase):
    def test_some_one_behind_the_other(self):
        made = Some([unlike("x"), below("z"), unlike("y")])
        self.assertEqual(told_cases(made.cases()),
                         [case_below("x"), case_above("x"), case_below("z"), case_below("y"), case_above("y")])

    def test_every_the_later_ones_change_first(self):
        made = Every([unlike("z"), unlike("x"), below("w"), unlike("y")])
        wanted = [z + x + case_below("w") + y
                  for z in (case_below("z"), case_above("z"))
                  for x in (case_below("x"), case_above("x"))
                  for y in (case_below("y"), case_above("y"))]
        self.assertEqual(told_cases(made.cases()), wanted)

    def test_every_of_cases_of_several_sums(self):
        made = Every([compare("x", "=", 0), Some([compare("y", "=", 1), below("z")])])
        x_case = (((("x", -1),), 0), ((("x", 1),), 0))
        y_case = (((("y", -1),), 1), ((("y", 1),), -1))
        self.assertEqual(told_cases(made.cases()), [x_case + y_case, x_case + case_below("z")])

    def test_like_cases_stay(self):
        self.assertEqual(told_cases(Some([below("x"), below("x")]).cases()), [case_below("x")] * 2)
        self.assertEqual(told_cases(Every([below("x"), below("x")]).cases()), [case_below("x") * 2])

    def test_turned_every_and_some(self):
        x_at_least_0, y_at_least_0 = compare("x", ">=", 0), compare("y", ">=", 0)
        self.assertEqual(told_cases(Turned(Every([x_at_least_0, y_at_least_0])).cases()),
                         [case_below("x"), case_below("y")])
        self.assertEqual(told_cases(Turned(Some([x_at_least_0, y_at_least_0])).cases()),
                         [case_below("x") + case_below("y")])

    def test_turned_within(self):
        made = Every([Turned(compare("x", "=", 0)), Turned(Some([Turned(unlike("y")), compare("z", ">=", 0)]))])
        self.assertEqual(told_cases(made.cases()),
                         [x + y + case_below("z")
                          for x in (case_below("x"), case_above("x"))
                          for y in (case_below("y"), case_above("y"))])

    def test_holds_just_where_a_case_is_met(self):
        chance = random.Random(10)
        looked_at = 0
        while looked_at < 120:
            made = drawn_condition(chance, 4)
            try:
                cases = made.cases()
            except TooMany:
                continue
            looked_at += 1
            for numbers in grid("xyz", -2, 1):
                self.assertIs(any(met(case, numbers) for case in cases), made.holds(numbers))


class TooManyTest(unittest.TestCase):
    def refused(self, made):
        with self.assertRaises(TooMany) as taken:
            made.cases()
        error = taken.exception
        self.assertIsInstance(error, WritError)
        self.assertIsInstance(error, ValueError)
        for other in (NoText, NoSense, NoRun, Fault, TooHard):
            self.assertNotIsInstance(error, other)

    def test_every(self):
        self.assertEqual(len(Every([unlike("x")] * 6).cases()), 64)
        self.assertEqual(len(Every([unlike("x")] * 6 + [below("y")] * 5).cases()), 64)
        self.refused(Every([unlike("x")] * 7))
        self.refused(Every([below("y")] * 5 + [unlike("x")] * 7))
        five = Some([below("x")] * 5)
        thirteen = Some([below("y")] * 13)
        self.refused(Every([five, thirteen]))
        self.assertEqual(len(Every([five, Some([below("y")] * 12)]).cases()), 60)

    def test_every_of_very_many_is_refused_at_once(self):
        self.refused(Every([unlike("x")] * 200))

    def test_some(self):
        self.assertEqual(len(Some([below("x")] * 64).cases()), 64)
        self.assertEqual(len(Some([unlike("x")] * 32).cases()), 64)
        self.refused(Some([below("x")] * 65))
        self.refused(Some([unlike("x")] * 32 + [below("y")]))
        self.refused(Some([unlike("x")] * 200))

    def test_some_and_every_together(self):
        sixty_four = Every([unlike("x")] * 6)
        self.refused(Some([sixty_four, below("y")]))
        self.refused(Some([below("y"), sixty_four]))
        self.assertEqual(len(Every([sixty_four, below("y")]).cases()), 64)
        self.refused(Every([Some([sixty_four, below("y")]), below("x")]))
        self.refused(Some([below("y"), Every([unlike("x")] * 7)]))

    def test_turned(self):
        like = compare("x", "=", 0)
        self.assertEqual(len(Turned(Some([like] * 6)).cases()), 64)
        self.refused(Turned(Some([like] * 7)))
        self.assertEqual(len(Turned(Every([below("x")] * 64)).cases()), 64)
        self.refused(Turned(Every([below("x")] * 65)))
        # What is too many as it stands may be few when it is turned.
        self.assertEqual(len(Turned(Every([unlike("x")] * 7)).cases()), 7)

    def test_only_cases_are_refused(self):
        made = Every([unlike("x")] * 7)
        self.assertIs(made.holds({"x": 1}), True)
        self.assertEqual(made.things(), ("x",))
        self.assertEqual(len(made.opposite().cases()), 7)


class OwnListTest(unittest.TestCase):
    def test_the_list_is_the_askers_own(self):
        for made in (unlike("x"), Turned(unlike("x")), Every([unlike("x"), unlike("y")]),
                     Some([unlike("x"), unlike("y")])):
            first = made.cases()
            told = told_cases(first)
            second = made.cases()
            self.assertIsNot(first, second)
            first.clear()
            self.assertEqual(told_cases(second), told)
            self.assertEqual(told_cases(made.cases()), told)
            kept = list(second)
            made.cases().append(())
            made.opposite()
            Every([made, made]).cases()
            self.assertEqual(second, kept)

    def test_the_condition_stays(self):
        made = Every([unlike("x"), Turned(below("y"))])
        told = made.told()
        made.cases()
        self.assertEqual(made.told(), told)


if __name__ == "__main__":
    unittest.main()
