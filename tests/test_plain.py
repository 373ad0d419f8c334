import random
import unittest
from itertools import product

from holdwright.conditions import Every, Some, Turned
from holdwright.debts import Debt, debts
from holdwright.errors import TooMany
from holdwright.going import along
from holdwright.plain import owed
from holdwright.sums import Sum
from support import DrawnSense, anything, compare, drawn_condition, hold, let, met, program_of, told_cases, total


def debt_of(condition, *rows):
    return Debt("claim", 3, tuple(rows), condition)


def texts_of(cases):
    return [[one.text() for one in case] for case in cases]


def unlike(thing, number=0):
    return compare(thing, "!=", number)


def hold_unlike(thing, number=0):
    return ("hold", unlike(thing, number))


def count_of_any(ahead):
    return len([row for row in ahead if row[0] == "any"])


def meets_some(cases, numbers):
    named = {f"?{place}": number for place, number in enumerate(numbers)}
    return any(met(case, named) for case in cases)


def is_broken(debt, numbers):
    things = along(debt.ahead, numbers)
    return things is not None and not debt.condition.holds(things)


class CasesTest(unittest.TestCase):
    maxDiff = None

    def check(self, expected, condition, *rows):
        """The cases' Sums as texts, for rows as tuples and as lists."""
        for ahead in (tuple(rows), list(rows), [list(row) for row in rows]):
            found = owed(Debt("claim", 3, ahead, condition))
            self.assertEqual(texts_of(found), expected)
            self.assertIs(type(found), list)
            for case in found:
                self.assertIs(type(case), tuple)
                for one in case:
                    self.assertIsInstance(one, Sum)


class OwedTest(CasesTest):
    def test_nothing_ahead(self):
        self.check([], compare(0, "=", 0))
        self.check([[]], compare(0, "=", 1))
        self.check([[]], compare(0, "<", 0))
        self.check([], compare(0, "<", 1))

    def test_any(self):
        self.check([["?0 - 4"]], compare("x", "<=", 3), anything("x"))
        self.check([["-?0 + 2"], ["?0 - 4"]], compare("x", "=", 3), anything("x"))
        self.check([["-?0 + 3", "?0 - 3"]], unlike("x", 3), anything("x"))
        self.check([["?0 - 2*?1"]], compare("#a", "<", total(b=2)), anything("#a"), anything("b"))

    def test_let(self):
        self.check([["2*?0 - 2"]], compare("y", "<=", 2), anything("x"), let("y", total(1, x=2)))
        self.check([["-?0 + 3*?1"]], compare("z", ">", "y"), anything("y"), anything("x"), let("z", total(y=2, x=-3)))

    def test_hold(self):
        self.check([["?0", "-?0 + 5", "?0 - 4"]], compare("x", "<", 4), anything("x"), hold(0, "<=", "x"),
                   hold("x", "<=", 5))

    def test_each_row_by_what_things_have_then(self):
        rows = [anything("x"), hold("x", ">=", 1), let("y", total(2, x=1)), hold("y", "<", 9),
                let("x", total(x=1, y=1)), hold("x", "!=", 0), let("y", total(x=-1))]
        self.check([["?0 - 1", "-?0 + 6", "-2*?0 - 3", "-2*?0 - 3"], ["?0 - 1", "-?0 + 6", "2*?0 + 1", "-2*?0 - 3"]],
                   compare("y", "<=", 0), *rows)

    def test_a_thing_that_gets_any_number_several_times(self):
        self.check([["?0 - 1", "?1 - 2", "-?1 + 4"]], compare("x", ">=", 5), anything("x"), hold("x", ">=", 1),
                   anything("x"), hold("x", ">=", 2))
        self.check([["?0 - ?1"]], compare("y", "<", "x"), anything("x"), let("y", "x"), anything("x"))
        self.check([["-?0 + ?2"]], compare("x", "<", "y"), anything("y"), anything("x"), anything("x"))

    def test_a_thing_that_is_let_several_times(self):
        rows = [anything("x"), let("x", total(1, x=2)), let("x", total(1, x=2)), let("x", total(1, x=2))]
        self.check([["8*?0 + 7"]], compare("x", "<", 0), *rows)
        self.check([["?0 + 1", "-?0 + 4"]], compare("x", ">=", 5), anything("x"), let("y", total(1, x=1)),
                   hold("y", ">=", 0), let("y", 3), let("y", "x"), let("x", "y"))

    def test_let_any_let(self):
        self.check([["?0 - 3", "-?0 + ?1 - 2"]], compare("y", "<=", "x"), let("x", 2), hold("x", ">=", 2),
                   anything("x"), let("y", "x"), hold("y", ">=", 3), anything("y"), let("y", total(-1, y=1)))

    def test_unknowns_beyond_ten(self):
        rows = [anything(f"x{place}") for place in range(12)]
        self.check([["?1 - ?10 + 3*?11 + 2*?2"]], compare(total(x1=1, x2=2), "<", total(x10=1, x11=-3)), *rows)
        found = owed(debt_of(compare(total(x1=1, x2=2), "<", total(x10=1, x11=-3)), *rows))
        self.assertEqual(told_cases(found), [(((("?1", 1), ("?10", -1), ("?11", 3), ("?2", 2)), 0),)])

    def test_things_called_like_unknowns(self):
        self.check([["-?0 + ?1 - 1"]], compare("?1", ">=", "?0"), anything("?1"), anything("?0"))

    def test_later_ones_change_first(self):
        self.check([["-?0 - 1", "-?1 - 1", "?0 - ?1"], ["-?0 - 1", "?1 - 1", "?0 - ?1"],
                    ["?0 - 1", "-?1 - 1", "?0 - ?1"], ["?0 - 1", "?1 - 1", "?0 - ?1"]],
                   compare("x", "<", "y"), anything("x"), anything("y"), hold_unlike("x"), hold_unlike("y"))

    def test_the_opposite_comes_last(self):
        self.check([["-?0 - 1", "-?0 + 2"], ["-?0 - 1", "?0 - 4"], ["?0 - 1", "-?0 + 2"], ["?0 - 1", "?0 - 4"]],
                   compare("x", "=", 3), anything("x"), hold_unlike("x"))
        self.check([["?0", "-?0 + 6"], ["?0", "?0 - 8", "?0 - 20"]],
                   Every([compare("x", ">=", 7), Some([compare("x", "<=", 7), compare("x", "<", 20)])]),
                   anything("x"), hold("x", ">=", 0))

    def test_holds_of_all_kinds(self):
        either = Some([compare("x", "<", 0), Every([compare("x", ">", "y"), compare("y", "=", 2)])])
        self.check([["-?0 - 1", "?0 + 3"], ["?0 - ?1 - 1", "-?1 + 2", "?1 - 2", "?0 + 3"]],
                   compare("x", "<", -3), anything("x"), anything("y"), ("hold", either))
        self.check([["?0", "-?0 + ?1", "?0 + 3"], ["?0", "-?1 + 1", "?0 + 3"], ["?0", "?1 - 3", "?0 + 3"]],
                   compare("x", "<", -3), anything("x"), anything("y"), ("hold", Turned(either)))
        self.check([["-?0 - 1", "?0 + 3"], ["?0 - ?1 - 1", "-?1 + 2", "?1 - 2", "?0 + 3"]],
                   Turned(compare("x", ">=", -3)), anything("x"), anything("y"), ("hold", Turned(Turned(either))))

    def test_like_sums_and_cases_stay(self):
        self.check([["?0", "?0", "?0"]], compare("x", "<", 0), anything("x"), hold(0, "<=", "x"), hold(0, "<=", "x"))
        self.check([["-?0", "?0", "-?0"]] * 2, compare("x", ">", 0), anything("x"),
                   ("hold", Some([compare("x", "<=", 0)] * 2)), hold(0, "<=", "x"))

    def test_great_numbers(self):
        great = 10 ** 200
        self.check([[f"{great}*?0 - {great}"]], compare("x", "<", great), anything("y"), let("x", total(y=great)))


class LeftOutTest(CasesTest):
    def test_sums_without_terms(self):
        for number in (3, 4, 50):
            self.check([["?0 - 1"]], compare("y", "<=", 0), anything("y"), let("x", number), hold("x", ">=", 3))
        self.check([["?0 - 1"]], compare("y", "<=", 0), let("x", 3), hold("x", "=", 3), anything("y"))

    def test_terms_that_fall_out(self):
        self.check([["-?0 - 1"]], compare("x", ">=", 0), anything("x"), let("y", "x"), hold("x", "=", "y"))
        self.check([[]], compare("y", ">", "x"), anything("x"), let("y", "x"))
        self.check([], compare("y", ">=", "x"), anything("x"), let("y", "x"))

    def test_cases_with_one_below_0(self):
        self.check([], compare("y", "<=", 0), anything("y"), let("x", 2), hold("x", ">=", 3))
        self.check([["?0 - 1"]], compare("y", "<=", 0), anything("y"), let("x", 2), hold_unlike("x", 3))
        self.check([], compare("y", "<=", 0), anything("y"), let("x", 3), hold_unlike("x", 3))
        self.check([["?0 - 5", "?0 - 1"]], compare("y", "<=", 0), anything("y"), let("x", 2),
                   ("hold", Some([Every([compare("y", ">", 7), compare("x", ">", 2)]), compare("y", ">=", 5)])))

    def test_below_0_by_1(self):
        self.check([], compare(0, "=", 1), hold(0, "<", 0))
        self.check([[]], compare(0, "=", 1), hold(0, "<=", 0))

    def test_what_is_left_out_of_the_opposite(self):
        self.check([["-?0 + 3"]], Every([compare("x", ">", 3), compare("z", "=", 2)]), anything("x"), let("z", 2))
        self.check([["?0"], ["?0"]], Every([unlike("x"), compare("z", "<", 2)]), anything("y"), hold(0, "<=", "y"),
                   let("x", 0), let("z", 2))
        self.check([], Some([compare("x", ">", 3), compare("z", "=", 2)]), anything("x"), let("z", 2))

    def test_nothing_left_stays_nothing(self):
        self.check([], compare("x", "=", 1), hold(0, "=", 1), anything("x"), hold_unlike("x"), hold_unlike("x"))


class TooManyTest(unittest.TestCase):
    def refused(self, condition, *rows):
        with self.assertRaises(TooMany):
            owed(debt_of(condition, *rows))

    def count(self, condition, *rows):
        return len(owed(debt_of(condition, *rows)))

    def test_one_condition(self):
        below = compare("x", "<", 0)
        for count in (63, 64):
            held = ("hold", Some([below] * count))
            self.assertEqual(self.count(compare("x", "<", -3), anything("x"), held), count)
        self.refused(compare("x", "<", -3), anything("x"), ("hold", Some([below] * 65)))
        self.assertEqual(self.count(Every([below] * 64), anything("x")), 64)
        self.refused(Every([below] * 65), anything("x"))

    def test_the_opposite_is_what_is_counted(self):
        self.refused(Some([compare("x", "=", 0)] * 7), anything("x"))
        self.assertEqual(self.count(Every([unlike("x")] * 7), anything("x")), 7)

    def test_one_condition_whose_cases_would_be_left_out(self):
        never = compare("x", "<", 0)
        self.refused(compare("x", "<", 9), let("x", 0), ("hold", Some([never] * 65)))
        self.assertEqual(self.count(compare("x", "<", 9), let("x", 0), ("hold", Some([never] * 64))), 0)
        self.refused(compare("x", "<", 9), let("x", 0), ("hold", Every([unlike("x")] * 7)))
        self.refused(Some([compare("x", "=", 0)] * 7), let("x", 0))

    def test_one_condition_where_no_cases_are_left(self):
        self.refused(compare("x", "<", 9), anything("x"), hold(0, "=", 1), ("hold", Every([unlike("x")] * 7)))

    def test_conditions_together(self):
        rows = [anything("x")] + [hold_unlike("x")] * 6
        self.assertEqual(self.count(compare("x", "<", 9), *rows), 64)
        self.refused(compare("x", "=", 9), *rows)
        self.refused(compare("x", "<", 9), *rows, hold_unlike("x"))
        self.assertEqual(self.count(compare("x", "=", 9), *rows[:-1]), 64)

    def test_sixty_five_and_some_more(self):
        five, thirteen = (("hold", Some([compare("x", "<", 0)] * count)) for count in (5, 13))
        self.refused(compare("x", "<", -5), anything("x"), five, thirteen)
        twelve = ("hold", Some([compare("x", "<", 0)] * 12))
        self.assertEqual(self.count(compare("x", "<", -5), anything("x"), five, twelve), 60)

    def test_at_any_time(self):
        rows = [anything("x"), let("z", 0)] + [hold_unlike("x")] * 7
        self.refused(compare("x", "<", 9), *rows, hold("z", "=", 1))
        self.refused(compare("z", "=", 0), *rows)
        self.assertEqual(self.count(compare("x", "<", 9), *rows[:2], hold("z", "=", 1), *rows[2:]), 0)

    def test_enough_are_left_out(self):
        rows = [anything("x"), let("z", 0)] + [hold_unlike("x")] * 6
        self.assertEqual(self.count(compare("x", "<", 9), *rows, *[hold_unlike("z", 1)] * 20), 64)
        self.assertEqual(self.count(compare("z", "=", 1), *rows), 64)
        self.assertEqual(self.count(compare("x", "<", 9), *rows, hold_unlike("z")), 0)
        half = ("hold", Some([unlike("x"), Every([compare("z", "=", 1), compare("x", "=", 1)])]))
        self.assertEqual(self.count(compare("x", "<", 9), *rows[:2], *[half] * 6), 64)
        self.refused(compare("x", "<", 9), *rows[:2], *[half] * 7)

    def test_the_cases_of_just_64_in_order(self):
        rows = [anything(f"x{place}") for place in range(6)]
        found = owed(debt_of(compare("x0", "<", 9), *rows, *[hold_unlike(f"x{place}") for place in range(6)]))
        wanted = [[f"-?{place} - 1" if low else f"?{place} - 1" for place, low in enumerate(lows)] + ["?0 - 9"]
                  for lows in product((True, False), repeat=6)]
        self.assertEqual(texts_of(found), wanted)


class OwnListTest(unittest.TestCase):
    def setUp(self):
        self.rows = [["any", "x"], ["let", "y", total(1, x=2)], ["hold", unlike("y")], ["hold", compare(0, "=", 0)]]
        self.debt = Debt("claim", 3, self.rows, Every([compare("x", "=", 3), Turned(compare("y", "<", 2))]))

    def test_what_is_handed_in_stays(self):
        kept = [list(row) for row in self.rows]
        told = self.debt.condition.told(), self.rows[2][1].told(), self.rows[1][2].text()
        owed(self.debt)
        self.assertEqual(self.rows, kept)
        self.assertIs(self.debt.ahead, self.rows)
        self.assertEqual((self.debt.condition.told(), self.rows[2][1].told(), self.rows[1][2].text()), told)
        self.assertEqual((self.debt.kind, self.debt.at), ("claim", 3))

    def test_asked_again(self):
        first = owed(self.debt)
        told = told_cases(first)
        self.assertEqual(len(told), 6)
        second = owed(self.debt)
        self.assertIsNot(first, second)
        first.clear()
        self.assertEqual(told_cases(second), told)
        self.assertEqual(told_cases(owed(self.debt)), told)

    def test_nothing_asked_again(self):
        for condition, count in ((compare(0, "=", 0), 0), (compare(0, "=", 1), 1)):
            debt = debt_of(condition)
            owed(debt).append(())
            self.assertEqual(owed(debt), [()] * count)

    def test_names_of_arguments(self):
        self.assertEqual(len(owed(debt=self.debt)), 6)


class JustWhereTest(unittest.TestCase):
    """Numbers meet one of the cases just where along them all holds hold and the condition doesn't."""

    def drawn_debt(self, chance):
        rows = [("any", "x"), ("let", "y", total(chance.randint(-1, 1), x=chance.randint(-1, 1))),
                ("any", "z") if chance.random() < 0.5 else ("let", "z", total(chance.randint(-1, 1)))]
        for _ in range(chance.randint(0, 4)):
            kind, thing = chance.choice(("any", "let", "hold", "hold")), chance.choice("xyz")
            if kind == "any" and count_of_any(rows) < 3:
                rows.append(("any", thing))
            elif kind == "let":
                one = total(chance.randint(-2, 2), x=chance.randint(-1, 2), y=chance.randint(-1, 1))
                rows.append(("let", thing, one))
            else:
                rows.append(("hold", drawn_condition(chance, 3)))
        return debt_of(drawn_condition(chance, 3), *rows)

    def test_drawn_debts(self):
        chance = random.Random(25)
        seen, refused = {True: 0, False: 0}, 0
        for _ in range(400):
            debt = self.drawn_debt(chance)
            try:
                cases = owed(debt)
            except TooMany:
                refused += 1
                continue
            for case in cases:
                self.assertTrue(all(one.terms for one in case))
            for numbers in product(range(-3, 4), repeat=count_of_any(debt.ahead)):
                broken = is_broken(debt, numbers)
                self.assertIs(meets_some(cases, numbers), broken)
                seen[broken] += 1
        self.assertGreater(min(seen.values()), 1000)
        self.assertTrue(0 < refused < 100, refused)

    def test_debts_of_drawn_programs(self):
        chance = random.Random(250)
        seen = {True: 0, False: 0}
        for _ in range(120):
            program = program_of(*DrawnSense(chance).rows)
            for helper in program.helpers:
                try:
                    found = [(debt, owed(debt)) for debt in debts(program, helper.name)]
                except TooMany:
                    continue
                for debt, cases in found:
                    for _ in range(10):
                        numbers = [chance.randint(-3, 5) for _ in range(count_of_any(debt.ahead))]
                        broken = is_broken(debt, numbers)
                        self.assertIs(meets_some(cases, numbers), broken)
                        seen[broken] += 1
        self.assertGreater(min(seen.values()), 100)


if __name__ == "__main__":
    unittest.main()
