import random
import unittest

from holdwright.conditions import Compare, Condition, Every, Some, Turned
from holdwright.sums import Sum
from support import OPPOSITES, SIGNS, as_sum, compare, drawn_condition, grid, total

GREAT = 10 ** 300

# For each sign what it says where one is below, at and above the other.
BELOW_AT_ABOVE = {
    "<": (True, False, False),
    "<=": (True, True, False),
    "=": (False, True, False),
    "!=": (True, False, True),
    ">=": (False, True, True),
    ">": (False, False, True),
}

X_BELOW_3 = compare("x", "<", 3)
Y_IS_0 = compare("y", "=", 0)
X_IS_Y = compare("x", "=", "y")


class KindTest(unittest.TestCase):
    def test_each_is_a_condition(self):
        for kind in (Compare, Turned, Every, Some):
            self.assertTrue(issubclass(kind, Condition))
        for one in (Compare, Turned, Every, Some):
            for other in (Compare, Turned, Every, Some):
                self.assertEqual(issubclass(one, other), one is other)

    def test_fields(self):
        one, other = total(1, x=1), total(2)
        made = Compare(one, "<=", other)
        self.assertIs(made.one, one)
        self.assertEqual(made.sign, "<=")
        self.assertIs(made.other, other)
        self.assertIs(Turned(made).condition, made)
        for kind in (Every, Some):
            for handed in ([made, X_IS_Y], (made, X_IS_Y)):
                several = kind(handed)
                self.assertIs(type(several.conditions), tuple)
                self.assertEqual(several.conditions, (made, X_IS_Y))

    def test_names_of_arguments(self):
        made = Compare(one=total(1), sign="<", other=total(2))
        self.assertIs(Turned(condition=made).condition, made)
        self.assertEqual(Every(conditions=[made, made]).conditions, (made, made))
        self.assertEqual(Some(conditions=[made, made]).conditions, (made, made))

    def test_a_list_handed_in_is_not_kept(self):
        for kind in (Every, Some):
            handed = [X_BELOW_3, Y_IS_0]
            made = kind(handed)
            text = made.text()
            handed.clear()
            self.assertEqual(made.conditions, (X_BELOW_3, Y_IS_0))
            self.assertEqual(made.text(), text)

    def test_a_list_handed_in_is_not_changed(self):
        for kind in (Every, Some):
            handed = [X_BELOW_3, Y_IS_0]
            made = kind(handed)
            made.opposite()
            made.cases()
            made.put_in({"x": total(1)})
            self.assertEqual(handed, [X_BELOW_3, Y_IS_0])


class HoldsTest(unittest.TestCase):
    def test_each_sign_at_the_edge_and_beside_it(self):
        for edge in (0, 5, -5, GREAT, -GREAT):
            for sign in SIGNS:
                made = compare(total(1, x=2), sign, total(1 + edge, y=1))
                for place, shift in enumerate((-1, 0, 1)):
                    numbers = {"x": edge, "y": edge - shift}
                    told = made.holds(numbers)
                    self.assertIs(told, BELOW_AT_ABOVE[sign][place], (sign, shift))
                    self.assertEqual(numbers, {"x": edge, "y": edge - shift})

    def test_without_things(self):
        self.assertIs(compare(2, "<", 3).holds({}), True)
        self.assertIs(compare(3, "<", 3).holds({}), False)

    def test_turned(self):
        self.assertIs(Turned(X_BELOW_3).holds({"x": 2}), False)
        self.assertIs(Turned(X_BELOW_3).holds({"x": 3}), True)
        self.assertIs(Turned(Turned(X_BELOW_3)).holds({"x": 2}), True)

    def test_every_and_some(self):
        for kind, wanted in ((Every, (True, False, False, False)), (Some, (True, True, True, False))):
            made = kind([X_BELOW_3, Y_IS_0])
            pairs = ((2, 0), (2, 1), (3, 0), (3, 1))
            for (x, y), truth in zip(pairs, wanted):
                self.assertIs(made.holds({"x": x, "y": y}), truth, (kind, x, y))

    def test_every_and_some_of_three(self):
        parts = [compare("x", "!=", number) for number in (1, 2, 3)]
        for x, truth in ((0, True), (1, False), (2, False), (3, False)):
            self.assertIs(Every(parts).holds({"x": x}), truth)
        parts = [compare("x", "=", number) for number in (1, 2, 3)]
        for x, truth in ((0, False), (1, True), (2, True), (3, True)):
            self.assertIs(Some(parts).holds({"x": x}), truth)

    def test_kinds_within_one_another(self):
        made = Every([X_BELOW_3, Some([Y_IS_0, Turned(X_IS_Y)])])
        for numbers in grid("xy", -1, 4):
            x, y = numbers["x"], numbers["y"]
            self.assertIs(made.holds(numbers), x < 3 and (y == 0 or x != y))


class ThingsTest(unittest.TestCase):
    def test_each_once_and_rising(self):
        made = compare(total(0, y=1, x=1), "<", total(0, x=2, **{"#b": 1}))
        self.assertEqual(made.things(), ("#b", "x", "y"))
        self.assertIs(type(made.things()), tuple)

    def test_each_kind(self):
        z_above_x = compare("z", ">", "x")
        self.assertEqual(Turned(z_above_x).things(), ("x", "z"))
        for kind in (Every, Some):
            self.assertEqual(kind([z_above_x, Y_IS_0]).things(), ("x", "y", "z"))
            self.assertEqual(kind([Turned(kind([z_above_x, Y_IS_0])), compare("a", "<", 1)]).things(),
                             ("a", "x", "y", "z"))

    def test_none(self):
        self.assertEqual(compare(1, "<", 2).things(), ())
        self.assertEqual(Every([compare(1, "<", 2), compare(1, "=", 1)]).things(), ())

    def test_things_that_would_cancel_are_there(self):
        self.assertEqual(compare("x", "<=", "x").things(), ("x",))


class ToldTest(unittest.TestCase):
    def test_compare(self):
        made = compare(total(3, y=2, x=1), ">=", total(-1))
        self.assertEqual(made.told(), ("compare", ((("x", 1), ("y", 2)), 3), ">=", ((), -1)))

    def test_each_sign(self):
        for sign in SIGNS:
            self.assertEqual(compare("x", sign, 0).told(), ("compare", ((("x", 1),), 0), sign, ((), 0)))

    def test_made_of_lists(self):
        made = Every([Compare(Sum([["x", 1]], 0), "<", Sum([], 1)), Y_IS_0])
        self.assertEqual(made.told(), ("and", ("compare", ((("x", 1),), 0), "<", ((), 1)), Y_IS_0.told()))

    def test_the_others(self):
        one, other, third = X_BELOW_3.told(), Y_IS_0.told(), X_IS_Y.told()
        self.assertEqual(Turned(X_BELOW_3).told(), ("not", one))
        self.assertEqual(Every([X_BELOW_3, Y_IS_0]).told(), ("and", one, other))
        self.assertEqual(Some([Y_IS_0, X_BELOW_3, X_IS_Y]).told(), ("or", other, one, third))
        self.assertEqual(Every([X_BELOW_3, Some([Y_IS_0, Turned(X_IS_Y)])]).told(),
                         ("and", one, ("or", other, ("not", third))))
        self.assertEqual(Every([X_BELOW_3, Every([Y_IS_0, X_IS_Y])]).told(), ("and", one, ("and", other, third)))


class PutInTest(unittest.TestCase):
    def test_each_kind_stays_its_kind(self):
        sums = {"x": total(1, y=2), "y": as_sum("x")}
        put = compare(total(1, y=2), "<", 3)
        self.assertEqual(X_BELOW_3.put_in(sums).told(), put.told())
        also = compare("x", "=", 0)
        self.assertEqual(Turned(X_BELOW_3).put_in(sums).told(), ("not", put.told()))
        self.assertEqual(Every([X_BELOW_3, Y_IS_0]).put_in(sums).told(), ("and", put.told(), also.told()))
        self.assertEqual(Some([X_BELOW_3, Y_IS_0]).put_in(sums).told(), ("or", put.told(), also.told()))

    def test_both_sides_at_once(self):
        swap = {"x": as_sum("y"), "y": as_sum("x")}
        for sign in SIGNS:
            made = compare(total(0, x=1, y=2), sign, "y").put_in(swap)
            self.assertEqual(made.told(), compare(total(0, x=2, y=1), sign, "x").told())

    def test_the_first_one_and_the_dict_stay(self):
        made = Every([X_BELOW_3, Turned(X_IS_Y)])
        told = made.told()
        sums = {"x": total(5)}
        made.put_in(sums)
        self.assertEqual(made.told(), told)
        self.assertEqual(list(sums), ["x"])
        self.assertEqual(made.put_in({}).told(), told)

    def test_holds_as_with_the_values(self):
        chance = random.Random(8)
        sums = {"x": total(1, y=1, x=-1), "z": total(-1, x=2)}
        for _ in range(60):
            made = drawn_condition(chance, 4)
            put = made.put_in(sums)
            for numbers in grid("xyz", -1, 1):
                inner = dict(numbers, x=sums["x"].value(numbers), z=sums["z"].value(numbers))
                self.assertIs(put.holds(numbers), made.holds(inner))


class OppositeTest(unittest.TestCase):
    def test_compare(self):
        one, other = total(1, x=2), as_sum("y")
        for sign in SIGNS:
            self.assertEqual(Compare(one, sign, other).opposite().told(), Compare(one, OPPOSITES[sign], other).told())

    def test_turned(self):
        self.assertEqual(Turned(X_BELOW_3).opposite().told(), X_BELOW_3.told())
        self.assertEqual(Turned(Turned(X_BELOW_3)).opposite().told(), Turned(X_BELOW_3).told())

    def test_every_and_some(self):
        parts = [X_BELOW_3, Turned(X_IS_Y), Y_IS_0]
        opposites = (compare("x", ">=", 3).told(), X_IS_Y.told(), compare("y", "!=", 0).told())
        self.assertEqual(Every(parts).opposite().told(), ("or",) + opposites)
        self.assertEqual(Some(parts).opposite().told(), ("and",) + opposites)

    def test_within_one_another(self):
        made = Every([X_BELOW_3, Some([Y_IS_0, X_IS_Y])])
        self.assertEqual(made.opposite().text(), "x >= 3 or (y != 0 and x != y)")

    def test_the_first_one_stays(self):
        made = Every([X_BELOW_3, Turned(X_IS_Y)])
        told = made.told()
        made.opposite()
        self.assertEqual(made.told(), told)

    def test_at_the_edge_and_beside_it(self):
        for sign in SIGNS:
            made = compare("x", sign, 4)
            for x in (3, 4, 5):
                self.assertIs(made.opposite().holds({"x": x}), not made.holds({"x": x}))

    def test_holds_just_where_the_first_one_does_not(self):
        chance = random.Random(9)
        for _ in range(120):
            made = drawn_condition(chance, 4)
            opposite = made.opposite()
            for numbers in grid("xyz", -1, 1):
                self.assertIs(opposite.holds(numbers), not made.holds(numbers))


class TextTest(unittest.TestCase):
    def test_the_documents_own(self):
        made = Every([X_BELOW_3, Some([Y_IS_0, Turned(X_IS_Y)])])
        self.assertEqual(made.text(), "x < 3 and (y = 0 or not (x = y))")

    def test_each_sign(self):
        for sign in SIGNS:
            made = compare(total(-1, x=-2, **{"#a": 1}), sign, total(-4))
            self.assertEqual(made.text(), f"#a - 2*x - 1 {sign} -4")

    def test_turned(self):
        self.assertEqual(Turned(X_BELOW_3).text(), "not (x < 3)")
        self.assertEqual(Turned(Turned(X_BELOW_3)).text(), "not (not (x < 3))")
        self.assertEqual(Turned(Every([X_BELOW_3, Y_IS_0])).text(), "not (x < 3 and y = 0)")
        self.assertEqual(Turned(Some([X_BELOW_3, Y_IS_0])).text(), "not (x < 3 or y = 0)")

    def test_without_brackets(self):
        self.assertEqual(Every([X_BELOW_3, Y_IS_0, X_IS_Y]).text(), "x < 3 and y = 0 and x = y")
        self.assertEqual(Some([X_BELOW_3, Y_IS_0, X_IS_Y]).text(), "x < 3 or y = 0 or x = y")
        self.assertEqual(Every([Turned(X_BELOW_3), Y_IS_0]).text(), "not (x < 3) and y = 0")

    def test_with_brackets(self):
        both, either = Every([X_BELOW_3, Y_IS_0]), Some([X_BELOW_3, Y_IS_0])
        self.assertEqual(Every([both, X_IS_Y]).text(), "(x < 3 and y = 0) and x = y")
        self.assertEqual(Every([X_IS_Y, either]).text(), "x = y and (x < 3 or y = 0)")
        self.assertEqual(Some([either, X_IS_Y]).text(), "(x < 3 or y = 0) or x = y")
        self.assertEqual(Some([X_IS_Y, both]).text(), "x = y or (x < 3 and y = 0)")
        self.assertEqual(Some([Turned(both), Every([either, Y_IS_0])]).text(),
                         "not (x < 3 and y = 0) or ((x < 3 or y = 0) and y = 0)")


if __name__ == "__main__":
    unittest.main()
