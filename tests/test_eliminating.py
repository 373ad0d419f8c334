"""What eliminating tells of Sums: a paper that refutes them, numbers that meet them, or where to split."""

import random
import unittest

from holdwright.debts import debts
from holdwright.eliminating import eliminated
from holdwright.errors import TooHard, TooMany
from holdwright.going import along
from holdwright.papers import refutes
from holdwright.plain import owed
from holdwright.sums import Sum, sum_of
from support import DrawnSense, grid, met, program_of, told_sum, total
from support_papers import Seeking, differences_are_met, second_refutes

GREAT = 10 ** 200


def told(answer):
    """What is told, so that two answers can be held against one another."""
    return (answer[0], told_sum(answer[1])) if answer[0] == "split" else (answer[0], answer[1])


class EliminatedTest(unittest.TestCase):
    def check(self, word, *sums):
        """Tells what is found, which must be right and of this word."""
        before = [told_sum(one) for one in sums]
        for given in (list(sums), tuple(sums)):
            answer = eliminated(given)
            self.assertIs(type(answer), tuple)
            self.assertEqual(answer[0], word, [one.text() for one in sums])
            self.assert_right(sums, answer)
            self.assertEqual(list(given), list(sums))
            self.assertEqual(told(eliminated(given)), told(answer))
        self.assertEqual([told_sum(one) for one in sums], before)
        return answer[1]

    def assert_right(self, sums, answer):
        word, found = answer
        if word == "none":
            self.assertIs(type(found), tuple)
            self.assertIs(refutes(sums, found), True)
            self.assertIs(second_refutes(sums, found), True)
        elif word == "some":
            self.assertIs(type(found), dict)
            self.assertEqual(list(found), sorted({thing for one in sums for thing in one.things()}))
            self.assertTrue(all(type(number) is int for number in found.values()))
            self.assertTrue(met(sums, found))
        else:
            self.assertEqual(word, "split")
            self.assertIsInstance(found, Sum)
            self.assertGreater(len(found.terms), 0)

    def sought(self, sums, most):
        seeking = Seeking(sums, most)
        self.assert_right(sums, (seeking.word, seeking.found))
        return seeking


class PlainTest(EliminatedTest):
    def test_nothing(self):
        self.assertEqual(self.check("some"), {})

    def test_without_terms(self):
        self.assertEqual(self.check("some", total(0), total(3)), {})
        for place in range(4):
            sums = [total(5), total(x=1), total(0)]
            self.check("none", *sums[:place], total(-1), *sums[place:])
        self.check("none", total(-GREAT))

    def test_one_thing(self):
        self.assertEqual(self.check("some", total(-3, x=1)), {"x": 3})
        self.assertEqual(self.check("some", total(-3, x=-1)), {"x": -3})
        self.assertEqual(self.check("some", total(3, x=1), total(5, x=-1)), {"x": 0})
        self.assertEqual(self.check("some", total(-3, x=1), total(3, x=-1)), {"x": 3})
        self.check("none", total(-3, x=1), total(2, x=-1))
        self.check("none", total(-1, x=2), total(1, x=-2))
        self.check("none", total(-7, x=3), total(8, x=-3))
        self.assertEqual(self.check("some", total(-7, x=3), total(9, x=-3)), {"x": 3})
        self.assertEqual(self.check("some", total(-5, x=10), total(19, x=-10)), {"x": 1})

    def test_great_numbers(self):
        self.assertEqual(self.check("some", total(-GREAT, x=1), total(GREAT, x=-1)), {"x": GREAT})
        self.check("none", total(-GREAT, x=1), total(GREAT - 1, x=-1))
        self.check("none", total(-1, x=GREAT), total(GREAT - 1, x=-GREAT))
        self.assertEqual(self.check("some", total(-1, x=GREAT), total(GREAT, x=-GREAT)), {"x": 1})
        self.check("some", total(-1, x=GREAT, y=-GREAT - 1), total(1, x=-GREAT, y=GREAT + 1))

    def test_things_that_are_bound_on_one_side(self):
        self.check("some", total(-5, x=2, y=-3), total(-7, y=1, z=4), total(-9, z=-1))
        self.check("some", total(-5, x=2, y=-3), total(-5, x=3, y=-2), total(-1, x=1, y=1, z=1))

    def test_chains(self):
        for length in range(2, 9):
            names = [f"x{place}" for place in range(length)]
            sums = [sum_of([(one, 1), (other, -1)], -1) for one, other in zip(names, names[1:])]
            close = sum_of([(names[0], -1), (names[-1], 1)], length - 1)
            self.check("some", *sums, close)
            self.check("none", *sums, close.less(total(1)))

    def test_whole_numbers_alone_fail(self):
        self.check("none", total(-1, x=6, y=-10), total(1, x=-6, y=10))
        self.check("none", total(-1, x=2, y=-2), total(1, x=-2, y=2))
        self.check("none", total(-1, x=3, y=-6, z=9), total(2, x=-3, y=6, z=-9))

    def test_level_sums(self):
        for number in range(-12, 13):
            sums = [total(number, x=6, y=10, z=15), total(-number, x=-6, y=-10, z=-15)]
            self.check("some", *sums)
            two = [total(number, x=12, y=21), total(-number, x=-12, y=-21)]
            self.check("none" if number % 3 else "some", *two)
        self.check("some", total(7, x=5, y=-7), total(-7, x=-5, y=7), total(-8, y=1), total(15, y=-1))
        self.check("none", total(7, x=5, y=-7), total(-7, x=-5, y=7), total(-2, y=1), total(5, y=-1))

    def test_level_sums_of_several(self):
        # The number of which 2, 3 and 2 are left by 3, 5 and 7.
        sums = []
        for name, by, left in (("p", 3, 2), ("q", 5, 3), ("r", 7, 2)):
            one = sum_of([("n", 1), (name, -by)], -left)
            sums += [one, one.times(-1)]
        self.assertEqual(self.check("some", *sums, total(n=1), total(104, n=-1))["n"], 23)
        self.check("none", *sums, total(n=1), total(22, n=-1))
        self.check("none", *sums, total(-24, n=1), total(127, n=-1))
        self.assertEqual(self.check("some", *sums, total(-24, n=1), total(128, n=-1))["n"], 128)

    def test_the_sum_with_the_least_number_speaks_for_like_ones(self):
        self.assertEqual(self.check("some", *[total(-number, x=1) for number in (3, 9, 2, 7)]), {"x": 9})
        self.check("none", *[total(-number, x=1) for number in (3, 9, 2)], *[total(number, x=-1) for number in (30, 8)])

    def test_the_paper_has_no_lines_that_lead_nowhere(self):
        many = [total(place, x=1, y=place) for place in range(2, 8)] + [total(place, x=-1, y=2) for place in range(5)]
        paper = self.check("none", *many, total(-1, z=1), total(z=-1))
        self.assertEqual(paper, (("add", ((1, len(many) + 1), (1, len(many)))),))


class BoundTest(EliminatedTest):
    def test_eighty_sums(self):
        sums = [sum_of([(f"x{place}", 1)], -place) for place in range(80)]
        self.assertEqual(self.check("some", *sums), {f"x{place}": place for place in sorted(range(80), key=str)})

    def test_more_than_eighty_sums(self):
        for one in (total(x=1), total(3), total(-1)):
            self.assert_refused([one] * 81)
        self.assert_refused([sum_of([(f"x{place}", 1)], -place) for place in range(81)])

    def test_more_than_eighty_on_the_way(self):
        chance = random.Random(80)
        names = [f"x{place}" for place in range(9)]
        self.assert_refused([sum_of([(name, chance.choice((-7, -5, -3, 3, 5, 7))) for name in names], 100)
                             for _ in range(60)])

    def assert_refused(self, sums):
        kept = [told_sum(one) for one in sums]
        for _ in range(2):
            with self.assertRaises(TooHard):
                eliminated(sums)
        self.assertEqual([told_sum(one) for one in sums], kept)


class NeverRefusedTest(EliminatedTest):
    """The cases of which the seeker may refuse none: they need no split and have never too many Sums."""

    def test_at_most_one_thing(self):
        chance = random.Random(28)
        seen = {"none": 0, "some": 0}
        for _ in range(1500):
            sums = []
            for _ in range(chance.choice((0, 1, 2, 5, 20, 40))):
                weight = chance.choice((-9, -7, -3, -2, -1, 1, 2, 3, 6, 8)) if chance.random() < 0.95 else 0
                sums.append(total(chance.choice((chance.randint(-9, 99), chance.randint(0, 60))), x=weight))
            truth = any(met(sums, {"x": number}) for number in range(-101, 102))
            self.check("some" if truth else "none", *sums)
            seen["some" if truth else "none"] += 1
        self.assertGreater(min(seen.values()), 200)

    def drawn_differences(self, chance):
        names = [f"x{place}" for place in range(chance.randint(1, 8))]
        spread = chance.choice((2, 10, 100, GREAT))
        shift = chance.choice((0, spread // 3, spread))
        found = []
        for _ in range(chance.choice((3, 10, 20, 30, 40, 40, 40))):
            number = chance.randint(-spread, spread) + shift
            if len(names) == 1 or chance.random() < 0.15:
                found.append(sum_of([(chance.choice(names), chance.choice((1, -1)))], number))
            else:
                one, other = chance.sample(names, 2)
                found.append(sum_of([(one, 1), (other, -1)], number))
        return found

    def test_differences(self):
        chance = random.Random(280)
        seen = {"none": 0, "some": 0}
        for _ in range(1500):
            sums = self.drawn_differences(chance)
            word = "some" if differences_are_met(sums) else "none"
            self.check(word, *sums)
            seen[word] += 1
        self.assertGreater(min(seen.values()), 400)

    def test_differences_that_are_just_met(self):
        chance = random.Random(281)
        for _ in range(150):
            numbers = {f"x{place}": chance.randint(-50, 50) for place in range(8)}
            pairs = [chance.sample(sorted(numbers), 2) for _ in range(40)]
            sums = [sum_of([(one, 1), (other, -1)], numbers[other] - numbers[one]) for one, other in pairs]
            self.check("some", *sums)
            ring = chance.sample(sorted(numbers), 8)
            sums = [sum_of([(one, 1), (other, -1)], numbers[other] - numbers[one])
                    for one, other in zip(ring, ring[1:] + ring[:1])]
            self.check("some", *sums)
            which = chance.randrange(8)
            self.check("none", *sums[:which], sums[which].less(total(1)), *sums[which + 1:])


class SplitTest(EliminatedTest):
    def band(self, x_weight, y_weight, low, high):
        return [total(-low, x=x_weight, y=y_weight), total(high, x=-x_weight, y=-y_weight)]

    def test_splits_that_are_due(self):
        # There is room between these four, but no whole numbers are there.
        sums = self.band(11, 13, 27, 45) + self.band(7, -9, -10, 4)
        self.check("split", *sums)
        seeking = self.sought(sums, 40)
        self.assertEqual(seeking.word, "none")
        self.assertEqual(seeking.found[0][0], "split")
        self.assertEqual(self.check("some", *self.band(11, 13, 24, 45), *self.band(7, -9, -10, 4)), {"x": 1, "y": 1})

    def test_a_split_of_which_one_side_is_met(self):
        chance = random.Random(291)
        seen = 0
        for _ in range(300):
            sums = self.drawn_narrow(chance)
            answer = eliminated(sums)
            if answer[0] == "split":
                seen += 1
                sides = (sums + [answer[1]], sums + [answer[1].times(-1).less(total(1))])
                truths = [any(met(side, numbers) for numbers in grid(("x", "y", "z"), -4, 4)) for side in sides]
                words = [self.sought(side, 300).word for side in sides]
                self.assertEqual(words, ["some" if truth else "none" for truth in truths])
        self.assertGreater(seen, 10)

    def test_splits_lead_to_papers(self):
        chance = random.Random(29)
        parts = {"none": [], "some": []}
        for _ in range(700):
            sums = self.drawn_narrow(chance)
            seeking = self.sought(sums, 300)
            truth = any(met(sums, numbers) for numbers in grid(("x", "y", "z"), -4, 4))
            self.assertEqual(seeking.word, "some" if truth else "none", [one.text() for one in sums])
            parts[seeking.word].append(seeking.parts)
        for counts in parts.values():
            self.assertGreater(len(counts), 100)
            self.assertGreater(len([count for count in counts if count > 1]), 10)
            # So few that a seeker of at most 16 parts comes to an end most of the time.
            self.assertGreater(len([count for count in counts if count <= 16]), len(counts) * 95 // 100)

    def drawn_narrow(self, chance):
        """Sums that leave little room, all numbers being from -4 to 4."""
        found = []
        for _ in range(chance.randint(1, 3)):
            one = sum_of([(thing, chance.choice((-7, -5, -4, -3, -2, 2, 3, 4, 5, 7))) for thing in "xyz"],
                         chance.randint(-9, 9))
            found += [one, one.times(-1).plus(total(chance.choice((0, 1, 1, 2, 3))))]
        for thing in "xyz":
            found += [sum_of([(thing, 1)], 4), sum_of([(thing, -1)], 4)]
        chance.shuffle(found)
        return found

    def test_drawn_sums(self):
        chance = random.Random(290)
        seen = {"none": 0, "some": 0}
        for _ in range(400):
            sums = []
            for _ in range(chance.randint(1, 7)):
                things = chance.sample(("x", "y", "z"), chance.randint(1, 3))
                sums.append(sum_of([(thing, chance.randint(-5, 5)) for thing in things], chance.randint(-9, 9)))
            seeking = self.sought(sums, 100)
            if any(met(sums, numbers) for numbers in grid(("x", "y", "z"), -3, 3)):
                self.assertEqual(seeking.word, "some")
            seen[seeking.word] += 1
        self.assertGreater(min(seen.values()), 50)


class SameTest(EliminatedTest):
    def test_the_same_each_time(self):
        chance = random.Random(3)
        drawn = []
        for _ in range(60):
            sums = [sum_of([(thing, chance.randint(-4, 4)) for thing in "pqrs"], chance.randint(-3, 9))
                    for _ in range(6)]
            drawn.append((sums, told(eliminated(sums))))
        self.assertEqual({answer[0] for sums, answer in drawn} - {"split"}, {"none", "some"})
        for sums, answer in reversed(drawn):
            made_anew = [Sum(one.terms, one.number) for one in sums]
            self.assertEqual(told(eliminated(made_anew)), answer)

    def test_what_is_told_is_the_askers_own(self):
        sums = [total(-3, x=1), total(-4, y=1)]
        eliminated(sums)[1].clear()
        self.assertEqual(eliminated(sums), ("some", {"x": 3, "y": 4}))

    def test_the_list_isnt_kept(self):
        sums = [total(-3, x=1)]
        word, numbers = eliminated(sums)
        sums.append(total(2, x=-1))
        self.assertEqual(numbers, {"x": 3})
        self.assertEqual(eliminated(sums)[0], "none")


class ProgramTest(EliminatedTest):
    """What programs owe: each debt's cases, in at most 16 parts each."""

    def word_of(self, debt):
        for case in owed(debt):
            seeking = self.sought(case, 16)
            if seeking.word == "some":
                count = len([row for row in debt.ahead if row[0] == "any"])
                things = along(debt.ahead, [seeking.found.get(f"?{place}", 0) for place in range(count)])
                self.assertIs(debt.condition.holds(things), False)
                return "denied"
        return "shown"

    def check_program(self, rows, *denied):
        """All debts of all helpers are shown, but for those of these kinds and places."""
        program = program_of(*rows)
        found = [(debt.kind, debt.at) for helper in program.helpers for debt in debts(program, helper.name)
                 if self.word_of(debt) == "denied"]
        self.assertEqual(found, list(denied))

    search = ["helper find #a x", "answers lo", "gives 0 <= lo and lo <= #a", "let hi = #a", "while lo < hi",
              "holds 0 <= lo and lo <= hi", "holds hi <= #a", "falls hi - lo", "let mid = lo + hi div 2",
              "let y = a at mid", "if y < x", "let lo = mid + 1", "else", "let hi = mid", "end", "end", "end"]

    def test_a_search_by_halves(self):
        self.check_program(self.search)
        worse = [row.replace("mid + 1", "mid") for row in self.search]
        self.check_program(worse, ("falls", 7))
        worse = [row.replace("lo < hi", "lo <= hi") for row in self.search]
        self.check_program(worse, ("beyond", 9), ("again", 5), ("falls", 7))

    def test_what_is_left_by_divisions(self):
        self.check_program(["helper f n", "let a = n div 2", "let a = a div 3", "let b = n div 6", "claim a = b",
                            "let c = n mod 12", "let d = c mod 4", "let e = n mod 4", "claim d = e",
                            "let g = 3*n + 1 mod 6", "claim g = 1 or g = 4", "let h = n div -2", "claim 2*h + n <= 1",
                            "claim 2*h + n >= 0", "claim 2*h + n = 0", "end"],
                           ("claim", 13))

    def test_a_sort(self):
        rows = ["helper swap #a i j", "needs 0 <= i and i < #a", "needs 0 <= j and j < #a", "let x = a at i",
                "let y = a at j", "put a at i = y", "put a at j = x", "end",
                "helper sort #a", "answers n", "gives n = #a", "while n < #a", "holds 0 <= n and n <= #a",
                "falls #a - n", "let j = n", "while j > 0", "holds 0 <= j and j <= n and n < #a", "falls j",
                "let x = a at j", "let y = a at j - 1", "if x < y", "call swap #a, j, j - 1", "end", "let j = j - 1",
                "end", "let n = n + 1", "end", "end"]
        self.check_program(rows)
        self.check_program([row.replace(" and n < #a", "") for row in rows])

    def test_drawn_programs(self):
        chance = random.Random(30)
        seen = {"shown": 0, "denied": 0}
        for _ in range(100):
            program = program_of(*DrawnSense(chance).rows)
            for helper in program.helpers:
                try:
                    found = debts(program, helper.name)
                except TooMany:
                    continue
                for debt in found:
                    try:
                        seen[self.word_of(debt)] += 1
                    except TooMany:
                        continue
        self.assertGreater(min(seen.values()), 100)


if __name__ == "__main__":
    unittest.main()
