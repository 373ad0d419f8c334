"""What is sought for a case: a paper that refutes it, or numbers that meet it, or a refusal within the bounds told."""

import random
import unittest
from unittest import mock

from holdwright import seeking
from holdwright.eliminating import eliminated
from holdwright.errors import TooHard
from holdwright.papers import refutes
from holdwright.seeking import sought
from holdwright.sums import Sum, sum_of
from support import grid, met, told_sum, total
from support_papers import Seeking, differences_are_met, second_refutes

GREAT = 10 ** 120


def things_of(case):
    return sorted({thing for one in case for thing in one.things()})


class SoughtTest(unittest.TestCase):
    def right(self, case, answer):
        """What was told is right of the case; tells its word."""
        self.assertIs(type(answer), tuple)
        word, found = answer
        if word == "none":
            self.assertIs(type(found), tuple)
            self.assertIs(refutes(case, found), True)
            self.assertIs(second_refutes(case, found), True)
        else:
            self.assertEqual(word, "some")
            self.assertIs(type(found), dict)
            self.assertEqual(list(found), things_of(case))
            self.assertTrue(all(type(number) is int for number in found.values()))
            self.assertTrue(met(case, found), [one.text() for one in case])
        return word

    def check(self, word, *sums):
        """The case is told by this word, as a list and as a tuple and told again; tells what goes with the word."""
        before = [told_sum(one) for one in sums]
        given = list(sums)
        answer = sought(given)
        self.assertEqual(self.right(sums, answer), word, [one.text() for one in sums])
        self.assertEqual(same(sought(tuple(sums))), same(answer))
        self.assertEqual([id(one) for one in given], [id(one) for one in sums])
        self.assertEqual([told_sum(one) for one in sums], before)
        return answer[1]

    def word_of(self, case):
        """The word of what is told, which is right, or "refused"."""
        try:
            answer = sought(case)
        except TooHard as error:
            self.assertIs(type(error), TooHard)
            return "refused"
        return self.right(case, answer)


def same(answer):
    """What was told, in a form that can be held against another."""
    return (answer[0], plain_paper(answer[1])) if answer[0] == "none" else (answer[0], list(answer[1].items()))


def plain_paper(paper):
    return tuple(plain_split(line) if line[0] == "split" else line for line in paper)


def plain_split(line):
    return ("split", told_sum(line[1]), plain_paper(line[2]), plain_paper(line[3]))


class PlainTest(SoughtTest):
    def test_the_empty_case(self):
        self.assertEqual(sought(()), ("some", {}))
        self.assertEqual(sought([]), ("some", {}))

    def test_sums_without_things(self):
        self.assertEqual(self.check("some", total(0), total(5), total(GREAT)), {})
        self.check("none", total(-1))
        self.check("none", total(3), total(-GREAT), total(0))

    def test_one_thing_by_hand(self):
        self.assertEqual(self.check("some", total(-3, x=1), total(3, x=-1)), {"x": 3})
        self.check("none", total(-3, x=1), total(2, x=-1))
        self.check("none", total(-1, x=2), total(1, x=-2))
        self.check("none", total(-GREAT, x=1), total(GREAT - 1, x=-1))
        self.assertEqual(self.check("some", total(-GREAT, x=1), total(GREAT, x=-1)), {"x": GREAT})

    def test_things_are_any_texts_and_rise(self):
        case = (sum_of([("?10", 1), ("?2", 1), ("#a", -1), ("", 1), ("B c", 1)], -4),)
        self.assertEqual(list(self.check("some", *case)), ["", "#a", "?10", "?2", "B c"])

    def test_no_whole_number_where_there_is_room(self):
        # 2*x + 4*y is 5; and x is both 1 less and 2 less than three times something.
        self.check("none", total(-5, x=2, y=4), total(5, x=-2, y=-4))
        self.check("none", total(1, x=1, y=-3), total(-1, x=-1, y=3), total(2, x=1, z=-3), total(-2, x=-1, z=3))

    def test_a_case_that_needs_splits(self):
        case = (total(-8, x=4, y=-1), total(9, x=-4, y=1), total(5, x=2, y=-5), total(-1, x=-2, y=5))
        paper = self.check("none", *case)
        self.assertEqual(paper[-1][0], "split")
        for part in (paper[-1][2], paper[-1][3], paper[:-1]):
            self.assertIs(refutes(case, part), False)
        met_case = (total(9, x=-4, y=5), total(-4, x=4, y=-5), total(-4, x=-3, y=1), total(7, x=3, y=-1))
        self.assertEqual(eliminated(met_case)[0], "split")
        self.check("some", *met_case)

    def test_a_case_that_may_be_too_hard(self):
        case = (total(-27, x=11, y=13), total(45, x=-11, y=-13), total(10, x=7, y=-9), total(4, x=-7, y=9))
        self.assertIn(self.word_of(case), ("none", "refused"))
        self.assertEqual(self.check("some", total(-24, x=11, y=13), *case[1:]), {"x": 1, "y": 1})


class NeverRefusedTest(SoughtTest):
    def bounds(self, case):
        """Whether a whole number meets a case of one thing: between the greatest least one and the least greatest."""
        low, high = None, None
        for one in case:
            if not one.terms:
                if one.number < 0:
                    return False
                continue
            weight = one.terms[0][1]
            if weight > 0:
                least = -(one.number // weight)
                low = least if low is None else max(low, least)
            else:
                most = one.number // -weight
                high = most if high is None else min(high, most)
        return low is None or high is None or low <= high

    def drawn_of_one_thing(self, chance):
        size = chance.choice((5, 40, 10 ** 9, GREAT))
        middle = chance.randint(-size, size)
        found = []
        for _ in range(chance.choice((1, 2, 3, 10, 39, 40))):
            if chance.random() < 0.1:
                found.append(total(chance.choice((0, 0, 0, 7, GREAT, -1 if chance.random() < 0.2 else 1))))
                continue
            weight = chance.choice((1, 1, 2, 3, 6, chance.randint(1, size))) * chance.choice((1, -1))
            # About the middle, so that the bounds come close to one another.
            slack = chance.randint(0, 3 * abs(weight)) - chance.choice((0, 0, 0, abs(weight) // 2))
            found.append(total(-weight * middle + slack, x=weight))
            if chance.random() < 0.2 and len(found) < 40:
                found.append(Sum(found[-1].terms, found[-1].number))
        return found[:40]

    def test_one_thing(self):
        chance = random.Random(2801)
        seen = {"none": 0, "some": 0}
        for _ in range(1500):
            case = self.drawn_of_one_thing(chance)
            word = "some" if self.bounds(case) else "none"
            self.check(word, *case)
            seen[word] += 1
        self.assertGreater(min(seen.values()), 300)

    def test_one_thing_without_room_for_a_whole_number(self):
        for weight in (2, 3, 10, 999, GREAT):
            for number in (-GREAT, -7, 0, 1, 12345):
                low = total(-weight * number - 1, x=weight)
                for high in (1, weight - 1):
                    self.check("none", low, total(weight * number + high, x=-weight))
                answer = self.check("some", low, total(weight * number + weight, x=-weight))
                self.assertEqual(answer, {"x": number + 1})

    def test_forty_equal_sums(self):
        self.assertEqual(self.check("some", *[total(-6, x=2)] * 40), {"x": 3})
        self.check("none", *[total(-6, x=2)] * 20, *[total(5, x=-2)] * 20)

    def drawn_differences(self, chance):
        names = [f"x{place}" for place in range(chance.randint(2, 8))]
        spread = chance.choice((1, 3, 50, GREAT))
        shift = chance.choice((0, spread // 2, spread))
        found = []
        for _ in range(chance.choice((2, 5, 15, 25, 40, 40, 40))):
            number = chance.randint(-spread, spread) + shift
            if chance.random() < 0.2:
                found.append(sum_of([(chance.choice(names), chance.choice((1, -1)))], number))
            elif chance.random() < 0.05:
                found.append(total(chance.choice((0, 3))))
            else:
                one, other = chance.sample(names, 2)
                found.append(sum_of([(one, 1), (other, -1)], number))
        return found

    def test_differences(self):
        chance = random.Random(2802)
        seen = {"none": 0, "some": 0}
        for _ in range(1200):
            case = self.drawn_differences(chance)
            word = "some" if differences_are_met(case) else "none"
            self.check(word, *case)
            seen[word] += 1
        self.assertGreater(min(seen.values()), 250)

    def test_differences_between_all_eight(self):
        names = [f"x{place}" for place in range(8)]
        pairs = [(one, other) for one in names for other in names if one < other]
        low = [sum_of([(other, 1), (one, -1)], -1) for one, other in pairs]
        self.assertEqual(len(low), 28)
        close = [sum_of([(name, 1)], 0) for name in names[:4]] + [sum_of([(names[7], -1)], 7)]
        self.assertEqual(self.check("some", *low, *close), {name: place for place, name in enumerate(names)})
        self.check("none", *low, *close[:4], sum_of([(names[7], -1)], 6))

    def test_two_things_and_few_sums_of_once_each(self):
        chance = random.Random(2803)
        seen = {"none": 0, "some": 0}
        for _ in range(1500):
            case = []
            for _ in range(chance.randint(1, 8)):
                weights = chance.choice(((1, 1), (1, -1), (-1, 1), (-1, -1), (1, 0), (0, 1), (-1, 0), (0, -1)))
                case.append(total(chance.randint(-3, 2), x=weights[0], y=weights[1]))
            # Corners of such a case lie at sums and differences of the numbers, halved: so these are far enough.
            word = "some" if any(met(case, numbers) for numbers in grid(("x", "y"), -7, 7)) else "none"
            self.check(word, *case)
            seen[word] += 1
        self.assertGreater(min(seen.values()), 300)


class SeveralTimesTest(SoughtTest):
    """Sums that are to be nought, in which things, from nought to a few, stand 2 to 7 times."""

    def drawn(self, chance):
        names = ("x", "y", "z")[:chance.randint(1, 3)]
        most = chance.randint(1, 5)
        case = []
        for _ in range(chance.randint(1, 2)):
            pairs = [(name, chance.choice((1, -1)) * chance.randint(2, 7)) for name in names]
            point = sum(weight * chance.randint(0, most) for name, weight in pairs)
            one = sum_of(pairs, -point - chance.choice((0, 0, 0, 1)))
            case += [one, one.times(-1)]
        for name in names:
            case += [sum_of([(name, 1)], 0), sum_of([(name, -1)], most)]
        chance.shuffle(case)
        return names, most, case

    def test_drawn(self):
        chance = random.Random(2804)
        seen = {"none": 0, "some": 0, "refused": 0}
        for _ in range(1200):
            names, most, case = self.drawn(chance)
            word = self.word_of(case)
            if word != "refused":
                truth = any(met(case, numbers) for numbers in grid(names, 0, most))
                self.assertEqual(word, "some" if truth else "none", [one.text() for one in case])
            seen[word] += 1
        self.assertGreater(min(seen["none"], seen["some"]), 300)
        self.assertLess(seen["refused"], 12)

    def test_a_whole_sum_several_times(self):
        for often in range(2, 8):
            for number in range(-8, 9):
                one = total(x=often, y=-often).plus(total(number))
                bounds = [total(x=1), total(9, x=-1), total(y=1), total(9, y=-1)]
                self.check("none" if number % often else "some", one, one.times(-1), *bounds)

    def test_a_row_of_divisions(self):
        # n is what is left of it by 2, 3, 5 and 7, and less than 210.
        case = [total(n=1), total(209, n=-1)]
        for name, by, left in (("p", 2, 1), ("q", 3, 2), ("r", 5, 4), ("s", 7, 6)):
            one = sum_of([("n", 1), (name, -by)], -left)
            case += [one, one.times(-1)]
        self.assertEqual(self.check("some", *case)["n"], 209)
        self.check("none", total(208, n=-1), *case)


class BoundTest(SoughtTest):
    def test_eighty_sums(self):
        case = [sum_of([(f"x{place}", 1)], -place) for place in range(80)]
        self.assertEqual(self.check("some", *case)["x79"], 79)
        self.check("none", *case[:79], sum_of([("x1", -1)], 0))

    def test_more_than_eighty_sums(self):
        self.assertEqual(self.word_of([total(x=1)] * 81), "refused")
        self.assertEqual(self.word_of([total(-1)] + [total(x=1)] * 100), "refused")
        self.assertEqual(self.word_of([sum_of([(f"x{place}", 1)], 0) for place in range(81)]), "refused")

    def test_a_refusal_changes_nothing(self):
        before = same(sought([total(-5, x=2), total(9, x=-2)]))
        for many in ([total(x=1)] * 81, hard_case(random.Random(4), 5, 6)):
            self.word_of(many)
            self.assertEqual(same(sought([total(-5, x=2), total(9, x=-2)])), before)
        self.check("none", total(-5, x=2), total(5, x=-2))

    def looks(self, case):
        """What eliminating was asked for while the case was sought, and the word."""
        asked = []

        def watched(sums):
            asked.append(tuple(sums))
            return eliminated(sums)

        with mock.patch.object(seeking, "eliminated", watched):
            return asked, self.word_of(case)

    def test_never_more_than_sixteen_parts(self):
        chance = random.Random(290)
        counts, words = [], {"none": 0, "some": 0, "refused": 0}
        for _ in range(500):
            case = hard_case(chance, 5, chance.choice((3, 6, 9)))
            asked, word = self.looks(case)
            self.assertEqual(asked[0], tuple(case))
            self.assertLessEqual(len(asked) - 1, 16)
            self.assertTrue(all(len(sums) <= 80 for sums in asked))
            words[word] += 1
            try:
                needed = Seeking(case, 400)
            except TooHard:
                continue
            # So many parts are made by splits, the first one being the case itself.
            counts.append(needed.parts - 1)
            self.assertEqual(word == "refused", counts[-1] > 16, counts[-1])
            if word != "refused":
                self.assertEqual(word, needed.word)
        for count in (0, 1, 2, 4, 14, 16):
            self.assertIn(count, counts)
        self.assertLess(min(count for count in counts if count > 16), 22)
        self.assertGreater(min(words.values()), 5)

    def scripted(self, splits):
        """The word where eliminating splits so many times, always on the last part that was made, and then tells that
        nothing meets."""
        left = [splits]

        def tells(sums):
            if left[0] == 0:
                return ("none", (("add", ((1, 0),)),))
            left[0] -= 1
            return ("split", total(x=1))

        with mock.patch.object(seeking, "eliminated", tells):
            try:
                return sought([total(-1)])[0]
            except TooHard:
                return "refused"

    def test_the_bound_of_parts(self):
        self.assertEqual([self.scripted(splits) for splits in (0, 1, 7, 8)], ["none"] * 4)
        self.assertEqual([self.scripted(splits) for splits in (9, 10, 16, 17, 40)], ["refused"] * 5)

    def test_splits_in_papers(self):
        def splits(paper):
            return sum(1 + splits(line[2]) + splits(line[3]) for line in paper if line[0] == "split")

        chance = random.Random(291)
        counts = []
        for _ in range(300):
            case = hard_case(chance, 5, 6)
            try:
                word, found = sought(case)
            except TooHard:
                continue
            if word == "none":
                counts.append(splits(found))
        self.assertLessEqual(max(counts), 8)
        self.assertGreater(max(counts), 3)


def hard_case(chance, count, most):
    """Two Sums that are to be nought, of things from nought to so many."""
    names = [f"x{place}" for place in range(count)]
    case = []
    for _ in range(2):
        one = sum_of([(name, chance.choice((1, -1)) * chance.randint(2, 7)) for name in names], chance.randint(-50, 5))
        case += [one, one.times(-1)]
    for name in names:
        case += [sum_of([(name, 1)], 0), sum_of([(name, -1)], most)]
    return case


class SameTest(SoughtTest):
    def test_told_again(self):
        chance = random.Random(2805)
        drawn = []
        for _ in range(80):
            case = hard_case(chance, chance.randint(2, 4), 4) if chance.random() < 0.5 else [
                sum_of([(thing, chance.randint(-4, 4)) for thing in "pqrs"], chance.randint(-3, 9)) for _ in range(6)]
            try:
                answer = sought(case)
            except TooHard:
                continue
            drawn.append((case, same(answer)))
            if answer[0] == "some":
                answer[1].clear()
        self.assertEqual({answer[0] for case, answer in drawn}, {"none", "some"})
        for case, answer in reversed(drawn):
            self.assertEqual(same(sought([Sum(one.terms, one.number) for one in case])), answer)

    def test_a_dict_that_was_told_stays(self):
        case = [total(-3, x=1), total(-4, y=1)]
        numbers = sought(case)[1]
        other = sought(case)[1]
        other["x"] = 99
        sought([total(-8, x=1)])
        self.assertEqual(numbers, {"x": 3, "y": 4})
        self.assertEqual(sought(case), ("some", {"x": 3, "y": 4}))

    def test_a_list_isnt_kept(self):
        case = [total(-3, x=1)]
        numbers = sought(case)[1]
        case.append(total(2, x=-1))
        self.assertEqual(numbers, {"x": 3})
        self.assertEqual(sought(case)[0], "none")


if __name__ == "__main__":
    unittest.main()
