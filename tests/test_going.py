import random
import unittest

from holdwright.conditions import Every, Some, Turned
from holdwright.going import along
from support import anything, compare, hold, let, total


class AlongTest(unittest.TestCase):
    def check(self, expected, ahead, numbers):
        """Whether the rows and the numbers are handed in as tuples or as lists."""
        for rows in (tuple(ahead), list(ahead), [list(row) for row in ahead]):
            for given in (tuple(numbers), list(numbers)):
                kept = (list(rows), list(given))
                found = along(rows, given)
                self.assertEqual(found, expected)
                self.assertIs(type(found), dict if expected is not None else type(None))
                self.assertEqual((list(rows), list(given)), kept)

    def test_nothing(self):
        self.check({}, [], [])
        self.check(None, [], [0])

    def test_any(self):
        self.check({"x": 4}, [anything("x")], [4])
        self.check({"x": 4, "#a": -5, "^^": 6}, [anything("x"), anything("#a"), anything("^^")], [4, -5, 6])

    def test_any_again(self):
        self.check({"x": 6, "y": 5}, [anything("x"), anything("y"), anything("x")], [4, 5, 6])

    def test_let(self):
        self.check({"x": 0}, [let("x", 0)], [])
        self.check({"x": 3, "y": 7}, [let("x", 3), let("y", total(1, x=2))], [])
        self.check({"x": 7}, [let("x", 3), let("x", total(1, x=2))], [])
        self.check({"x": 2, "~4": 5}, [anything("x"), let("~4", total(3, x=1))], [2])

    def test_lets_go_by_what_things_have_then(self):
        rows = [anything("x"), let("y", "x"), let("x", total(1, x=1)), let("z", "x")]
        self.check({"x": 5, "y": 4, "z": 5}, rows, [4])
        self.check({"x": 9, "y": 4}, [anything("x"), let("y", "x"), anything("x")], [4, 9])

    def test_hold(self):
        self.check({}, [hold(1, "<", 2)], [])
        self.check(None, [hold(2, "<", 2)], [])
        for number in range(-2, 3):
            self.check({"x": number} if number >= 0 else None, [anything("x"), hold(0, "<=", "x")], [number])

    def test_holds_when_it_is_come_to(self):
        rows = [let("x", 1), hold("x", "=", 1), let("x", 2), hold("x", "=", 2)]
        self.check({"x": 2}, rows, [])
        self.check(None, [let("x", 1), hold("x", "=", 2), let("x", 2)], [])
        self.check(None, [let("x", 2), hold("x", "=", 2), let("x", 1), hold("x", "=", 2)], [])
        rows = [anything("x"), hold("x", "=", 1), anything("x"), hold("x", "=", 2)]
        self.check({"x": 2}, rows, [1, 2])
        for numbers in ([1, 1], [2, 2], [2, 1]):
            self.check(None, rows, numbers)

    def test_one_of_several_holds(self):
        rows = [anything("x"), hold("x", ">", 0), hold("x", ">", 1), hold("x", ">", 2)]
        for number in range(5):
            self.check({"x": number} if number > 2 else None, rows, [number])

    def test_holds_of_all_kinds(self):
        condition = Every([compare("x", "!=", 3), Some([compare("x", ">", 1), Turned(compare("x", "<=", -2))])])
        for number in range(-4, 6):
            expected = {"x": number} if condition.holds({"x": number}) else None
            self.check(expected, [anything("x"), ("hold", condition)], [number])

    def test_more_or_fewer_numbers(self):
        rows = [anything("x"), let("y", 3), anything("z")]
        self.check({"x": 1, "y": 3, "z": 2}, rows, [1, 2])
        for numbers in ([], [1], [1, 2, 3], [1, 2, 3, 4]):
            self.check(None, rows, numbers)
        self.check(None, [anything("x"), hold("x", "=", 1), let("y", "x")], [])
        self.check(None, [let("y", 3)], [3])

    def test_great_numbers(self):
        self.check({"x": 10 ** 50, "y": 3 * 10 ** 50}, [anything("x"), let("y", total(x=3)), hold("y", ">", "x")],
                   [10 ** 50])

    def test_what_is_told_is_the_askers_own(self):
        rows, numbers = [anything("x"), let("y", total(1, x=1))], [3]
        first = along(rows, numbers)
        first["x"] = 50
        first.pop("y")
        self.assertEqual(along(rows, numbers), {"x": 3, "y": 4})

    def test_names_of_arguments(self):
        self.assertEqual(along(ahead=[anything("x")], numbers=[3]), {"x": 3})

    def test_drawn_rows(self):
        chance = random.Random(22)
        seen = {True: 0, False: 0}
        for _ in range(500):
            rows, numbers, things, well = [let("x", 0), let("y", 0)], [], {"x": 0, "y": 0}, True
            for _ in range(chance.randint(0, 8)):
                kind, thing = chance.choice(("any", "let", "hold")), chance.choice("xy")
                one = total(chance.randint(-3, 3), x=chance.randint(-1, 1), y=chance.randint(-1, 1))
                value = one.number + sum(weight * things[name] for name, weight in one.terms)
                if kind == "any":
                    numbers.append(chance.randint(-3, 3))
                    things[thing] = numbers[-1]
                    rows.append(("any", thing))
                elif kind == "let":
                    things[thing] = value
                    rows.append(("let", thing, one))
                else:
                    well = well and value >= -2
                    rows.append(("hold", compare(one, ">=", -2)))
            seen[well] += 1
            self.check(things if well else None, rows, numbers)
            self.check(None, rows, numbers + [0])
        self.assertGreater(min(seen.values()), 50)


if __name__ == "__main__":
    unittest.main()
