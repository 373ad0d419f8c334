import random
import unittest

from holdwright.sums import Sum, sum_of
from support import as_sum, check_sum, told_sum, total

GREAT = 10 ** 400 + 7


class MakingTest(unittest.TestCase):
    def test_pairs_in_any_order(self):
        made = sum_of([("y", 2), ("#a", -1), ("x", 3)], 4)
        check_sum(self, made, (("#a", -1), ("x", 3), ("y", 2)), 4)

    def test_things_rise_as_python_orders_texts(self):
        made = sum_of([("b", 1), ("~3", 1), ("#b", 1), ("ab", 1), ("a", 1), ("^^", 1), ("^", 1), ("?10", 1),
                       ("?2", 1), ("B", 1), ("", 1)], 0)
        self.assertEqual(made.things(), ("", "#b", "?10", "?2", "B", "^", "^^", "a", "ab", "b", "~3"))

    def test_like_things_are_added_up(self):
        made = sum_of([("x", 2), ("y", 1), ("x", 3), ("x", -1)], 0)
        check_sum(self, made, (("x", 4), ("y", 1)), 0)

    def test_noughts_are_left_out(self):
        made = sum_of([("x", 2), ("y", 0), ("x", -2), ("z", 1)], 0)
        check_sum(self, made, (("z", 1),), 0)

    def test_all_add_up_to_nought(self):
        check_sum(self, sum_of([("x", 5), ("x", -5)], -9), (), -9)

    def test_nought_on_the_way_only(self):
        check_sum(self, sum_of([("x", 2), ("x", -2), ("x", 7)], 0), (("x", 7),), 0)

    def test_no_pairs(self):
        check_sum(self, sum_of([], 0), (), 0)
        check_sum(self, sum_of((), 6), (), 6)

    def test_great_numbers(self):
        made = sum_of([("x", GREAT), ("x", 1), ("y", -GREAT)], -GREAT)
        check_sum(self, made, (("x", GREAT + 1), ("y", -GREAT)), -GREAT)
        check_sum(self, sum_of([("x", GREAT), ("x", -GREAT)], GREAT), (), GREAT)

    def test_lists_and_tuples_alike(self):
        for pairs in ([("y", 1), ("x", 2)], (("y", 1), ("x", 2)), [["y", 1], ["x", 2]], (["y", 1], ["x", 2])):
            check_sum(self, sum_of(pairs, 3), (("x", 2), ("y", 1)), 3)
        for terms in ([("x", 2), ("y", 1)], (("x", 2), ("y", 1)), [["x", 2], ["y", 1]], (["x", 2], ["y", 1])):
            check_sum(self, Sum(terms, 3), (("x", 2), ("y", 1)), 3)

    def test_what_is_handed_in_stays(self):
        pairs = [("y", 1), ("x", 2), ("y", -1), ("z", 0)]
        sum_of(pairs, 3)
        self.assertEqual(pairs, [("y", 1), ("x", 2), ("y", -1), ("z", 0)])

    def test_a_list_handed_in_is_not_kept(self):
        terms = [("x", 2), ("y", 1)]
        made = Sum(terms, 3)
        terms.clear()
        check_sum(self, made, (("x", 2), ("y", 1)), 3)
        pairs = [("x", 2), ("y", 1)]
        made = sum_of(pairs, 3)
        pairs.clear()
        check_sum(self, made, (("x", 2), ("y", 1)), 3)

    def test_names_of_arguments(self):
        check_sum(self, Sum(terms=(("x", 1),), number=2), (("x", 1),), 2)
        check_sum(self, sum_of(pairs=[("x", 1)], number=2), (("x", 1),), 2)


class ReckoningTest(unittest.TestCase):
    def setUp(self):
        self.first = sum_of([("#a", 1), ("x", -2), ("y", 3)], 5)
        self.other = sum_of([("x", 2), ("y", 1), ("z", 4)], -6)

    def tearDown(self):
        check_sum(self, self.first, (("#a", 1), ("x", -2), ("y", 3)), 5)
        check_sum(self, self.other, (("x", 2), ("y", 1), ("z", 4)), -6)

    def test_value(self):
        numbers = {"#a": 10, "x": 4, "y": -1, "further": 1000}
        self.assertEqual(self.first.value(numbers), 5 + 10 - 8 - 3)
        self.assertEqual(numbers, {"#a": 10, "x": 4, "y": -1, "further": 1000})

    def test_value_without_terms(self):
        self.assertEqual(total(-3).value({}), -3)
        value = total().value({"x": 4})
        self.assertEqual(value, 0)
        self.assertIs(type(value), int)

    def test_value_of_great_numbers(self):
        made = total(-GREAT, x=GREAT, y=-1)
        self.assertEqual(made.value({"x": GREAT, "y": -GREAT}), GREAT * GREAT)
        self.assertEqual(made.value({"x": -GREAT, "y": 1}), -GREAT * GREAT - GREAT - 1)

    def test_plus(self):
        check_sum(self, self.first.plus(self.other), (("#a", 1), ("y", 4), ("z", 4)), -1)
        check_sum(self, self.other.plus(self.first), (("#a", 1), ("y", 4), ("z", 4)), -1)
        check_sum(self, self.first.plus(total()), self.first.terms, 5)

    def test_less(self):
        check_sum(self, self.first.less(self.other), (("#a", 1), ("x", -4), ("y", 2), ("z", -4)), 11)
        check_sum(self, self.other.less(self.first), (("#a", -1), ("x", 4), ("y", -2), ("z", 4)), -11)
        check_sum(self, self.first.less(self.first), (), 0)

    def test_times(self):
        check_sum(self, self.first.times(3), (("#a", 3), ("x", -6), ("y", 9)), 15)
        check_sum(self, self.first.times(-1), (("#a", -1), ("x", 2), ("y", -3)), -5)
        check_sum(self, self.first.times(1), self.first.terms, 5)
        check_sum(self, self.first.times(0), (), 0)

    def test_great_ones(self):
        one = total(GREAT, x=GREAT)
        check_sum(self, one.plus(one), (("x", 2 * GREAT),), 2 * GREAT)
        check_sum(self, one.less(total(1, x=1)), (("x", GREAT - 1),), GREAT - 1)
        check_sum(self, one.times(-GREAT), (("x", -GREAT * GREAT),), -GREAT * GREAT)

    def test_things(self):
        self.assertEqual(self.first.things(), ("#a", "x", "y"))
        self.assertEqual(total(7).things(), ())
        self.assertIs(type(self.first.things()), tuple)


class PutInTest(unittest.TestCase):
    def test_ordinary(self):
        made = total(1, x=2, y=-1).put_in({"x": total(3, z=1)})
        check_sum(self, made, (("y", -1), ("z", 2)), 7)

    def test_a_thing_by_a_sum_that_holds_it(self):
        check_sum(self, total(5, x=3).put_in({"x": total(1, x=1)}), (("x", 3),), 8)
        check_sum(self, total(5, x=3).put_in({"x": total(1, x=-1, y=2)}), (("x", -3), ("y", 6)), 8)

    def test_all_at_once(self):
        swap = {"x": as_sum("y"), "y": as_sum("x")}
        check_sum(self, total(0, x=1, y=2).put_in(swap), (("x", 2), ("y", 1)), 0)
        chain = {"x": as_sum("y"), "y": as_sum("z"), "z": total(4)}
        check_sum(self, total(0, x=1, y=10, z=100).put_in(chain), (("y", 1), ("z", 10)), 400)
        back = {"z": as_sum("y"), "y": as_sum("x"), "x": total(4)}
        check_sum(self, total(0, x=1, y=10, z=100).put_in(back), (("x", 10), ("y", 100)), 4)

    def test_empty_dict(self):
        check_sum(self, total(5, x=3, y=-1).put_in({}), (("x", 3), ("y", -1)), 5)
        check_sum(self, total(5).put_in({}), (), 5)

    def test_things_that_are_not_there(self):
        check_sum(self, total(5, x=3).put_in({"y": total(9)}), (("x", 3),), 5)

    def test_terms_that_vanish(self):
        check_sum(self, total(5, x=1, y=1).put_in({"x": total(-5, y=-1)}), (), 0)
        check_sum(self, total(5, x=1, y=1).put_in({"x": total()}), (("y", 1),), 5)

    def test_great_ones(self):
        made = total(GREAT, x=GREAT).put_in({"x": total(-1, y=GREAT)})
        check_sum(self, made, (("y", GREAT * GREAT),), 0)

    def test_what_is_handed_in_stays(self):
        first = total(1, x=2, y=-1)
        stands_in = total(3, x=1, z=1)
        sums = {"x": stands_in}
        made = first.put_in(sums)
        check_sum(self, made, (("x", 2), ("y", -1), ("z", 2)), 7)
        check_sum(self, first, (("x", 2), ("y", -1)), 1)
        check_sum(self, stands_in, (("x", 1), ("z", 1)), 3)
        self.assertEqual(list(sums), ["x"])
        self.assertIs(sums["x"], stands_in)
        sums.clear()
        check_sum(self, made, (("x", 2), ("y", -1), ("z", 2)), 7)


class TextTest(unittest.TestCase):
    def check(self, text, number, **weights):
        self.assertEqual(total(number, **weights).text(), text)

    def test_the_documents_own(self):
        self.check("#a - 2*x + y - 3", -3, **{"#a": 1, "x": -2, "y": 1})
        self.check("-x", 0, x=-1)
        self.check("0", 0)
        self.check("-4", -4)

    def test_only_a_number(self):
        self.check("7", 7)
        self.check("1", 1)
        self.check("-1", -1)

    def test_one_and_minus_one(self):
        self.check("x", 0, x=1)
        self.check("x + y", 0, x=1, y=1)
        self.check("x - y", 0, x=1, y=-1)
        self.check("-x - y", 0, x=-1, y=-1)
        self.check("-x + y", 0, x=-1, y=1)

    def test_other_weights(self):
        self.check("2*x", 0, x=2)
        self.check("-2*x", 0, x=-2)
        self.check("-2*x + 3*y - 11*z", 0, x=-2, y=3, z=-11)

    def test_number_behind_terms(self):
        self.check("x + 1", 1, x=1)
        self.check("x - 1", -1, x=1)
        self.check("-10*x + 20", 20, x=-10)
        self.check("x", 0, x=1)

    def test_great_numbers(self):
        self.check(f"-{GREAT}*x + y - {GREAT}", -GREAT, x=-GREAT, y=1)

    def test_order_of_things(self):
        self.assertEqual(sum_of([("y", 1), ("#b", -1), ("x", -2)], 0).text(), "-#b - 2*x + y")


class LawTest(unittest.TestCase):
    """Reckoning with Sums goes along with reckoning with their values."""

    def setUp(self):
        self.chance = random.Random(6)

    def drawn(self):
        pairs = [(self.chance.choice("wxyz"), self.chance.randint(-3, 3)) for _ in range(self.chance.randint(0, 6))]
        return sum_of(pairs, self.chance.randint(-4, 4))

    def test_values(self):
        for _ in range(300):
            one, other, third = self.drawn(), self.drawn(), self.drawn()
            numbers = {thing: self.chance.randint(-9, 9) for thing in "wxyz"}
            weight = self.chance.randint(-3, 3)
            value = one.value(numbers)
            self.assertEqual(one.plus(other).value(numbers), value + other.value(numbers))
            self.assertEqual(one.less(other).value(numbers), value - other.value(numbers))
            self.assertEqual(one.times(weight).value(numbers), weight * value)
            inner = dict(numbers, x=other.value(numbers), y=third.value(numbers))
            self.assertEqual(one.put_in({"x": other, "y": third}).value(numbers), one.value(inner))

    def test_form(self):
        for _ in range(300):
            one, other = self.drawn(), self.drawn()
            for made in (one.plus(other), one.less(other), one.times(0), one.put_in({"x": other})):
                things = made.things()
                self.assertEqual(list(things), sorted(set(things)))
                self.assertNotIn(0, [weight for thing, weight in made.terms])
                self.assertEqual(told_sum(Sum(made.terms, made.number)), told_sum(made))


if __name__ == "__main__":
    unittest.main()
