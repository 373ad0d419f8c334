import ast
import unittest
from pathlib import Path

from holdwright.papers import line_of, refutes
from holdwright.sums import Sum
from support import check_sum, total, told_sum
from support_papers import second_refutes

PACKAGE = Path(__file__).resolve().parent.parent / "holdwright"

# No number is at least 1 and at most 0.
ABOVE, BELOW = total(-1, x=1), total(x=-1)
CLASH = ("add", ((1, 0), (1, 1)))

NEVER = total(-1)


def as_lists(part):
    """The same with a list for each tuple."""
    return [as_lists(one) for one in part] if isinstance(part, tuple) else part


class PaperTest(unittest.TestCase):
    def check(self, truth, case, *paper):
        """As tuples and as lists, by the checker and by the second one."""
        for given in (tuple(case), list(case)):
            for lines in (tuple(paper), list(paper), as_lists(tuple(paper))):
                told = [told_sum(one) for one in given]
                kept = str(lines)
                self.assertIs(refutes(given, lines), truth)
                self.assertEqual([told_sum(one) for one in given], told)
                self.assertEqual(str(lines), kept)
        self.assertIs(second_refutes(case, paper), truth)


class LineOfTest(unittest.TestCase):
    lines = [total(3, x=2, y=-4), total(-5, y=6), total(-7), total(1, x=-1, z=2)]

    def check(self, line, terms, number):
        for lines in (list(self.lines), tuple(self.lines)):
            for given in (line, as_lists(line)):
                check_sum(self, line_of(lines, given), terms, number)
                self.assertEqual(list(lines), self.lines)

    def test_add_of_one_pair(self):
        self.check(("add", ((1, 0),)), (("x", 2), ("y", -4)), 3)
        self.check(("add", ((3, 0),)), (("x", 6), ("y", -12)), 9)
        self.check(("add", ((4, 2),)), (), -28)

    def test_add_of_several(self):
        self.check(("add", ((1, 0), (1, 1))), (("x", 2), ("y", 2)), -2)
        self.check(("add", ((3, 0), (2, 1))), (("x", 6),), -1)
        self.check(("add", ((1, 3), (2, 2), (1, 0))), (("x", 1), ("y", -4), ("z", 2)), -10)
        self.check(("add", ((1, 0), (2, 3), (5, 2), (1, 1))), (("y", 2), ("z", 4)), -35)

    def test_add_of_a_line_several_times(self):
        self.check(("add", ((1, 0), (1, 0))), (("x", 4), ("y", -8)), 6)
        self.check(("add", ((1, 0), (1, 3), (2, 0), (5, 3))), (("y", -12), ("z", 12)), 15)

    def test_cut(self):
        self.check(("cut", 0, 1), (("x", 2), ("y", -4)), 3)
        self.check(("cut", 0, 2), (("x", 1), ("y", -2)), 1)

    def test_cut_of_a_number_below_0(self):
        self.check(("cut", 1, 2), (("y", 3),), -3)
        self.check(("cut", 1, 3), (("y", 2),), -2)
        self.check(("cut", 1, 6), (("y", 1),), -1)
        self.check(("cut", 1, 1), (("y", 6),), -5)

    def test_cut_without_terms(self):
        self.check(("cut", 2, 7), (), -1)
        self.check(("cut", 2, 6), (), -2)
        self.check(("cut", 2, 100), (), -1)

    def test_great_numbers(self):
        great = 10 ** 300
        check_sum(self, line_of([total(-1, x=great)], ("cut", 0, great)), (("x", 1),), -1)
        check_sum(self, line_of([total(-1, x=1)], ("add", ((great, 0),))), (("x", great),), -great)

    def test_the_lines_stay(self):
        lines = list(self.lines)
        told = [told_sum(one) for one in lines]
        made = line_of(lines, ("add", ((1, 0),)))
        self.assertEqual((lines, [told_sum(one) for one in lines]), (self.lines, told))
        self.assertEqual(told_sum(made), told[0])

    def test_names_of_arguments(self):
        check_sum(self, line_of(lines=self.lines, line=("cut", 1, 6)), (("y", 1),), -1)


class AddTest(PaperTest):
    def test_one_pair(self):
        self.check(True, [NEVER, total(x=1)], ("add", ((1, 0),)))
        self.check(True, [NEVER, total(x=1)], ("add", ((5, 0),)))
        self.check(False, [NEVER, total(x=1)], ("add", ((1, 1),)))

    def test_several(self):
        self.check(True, [ABOVE, BELOW], CLASH)
        self.check(True, [total(-1, x=1, y=-2), total(y=1, x=-1), total(y=1)], ("add", ((1, 0), (1, 1), (1, 2))))

    def test_weights(self):
        case = [total(-7, x=2), total(10, x=-3)]
        self.check(True, case, ("add", ((3, 0), (2, 1))))
        self.check(False, case, ("add", ((2, 0), (3, 1))))
        self.check(False, case, ("add", ((1, 0), (1, 1))))

    def test_a_line_several_times(self):
        case = [total(-7, x=2), total(10, x=-3)]
        self.check(True, case, ("add", ((1, 0), (2, 1), (1, 0), (1, 0))))
        self.check(True, case, ("add", ((1, 1), (3, 0), (1, 1))))

    def test_lines_numbered_on(self):
        case = [total(-1, x=1, y=-1), total(-1, y=1, z=-1), total(-1, z=1), total(2, x=-1)]
        self.check(True, case, ("add", ((1, 0), (1, 1))), ("add", ((1, 4), (1, 2))), ("add", ((1, 5), (1, 3))))
        self.check(True, case, ("add", ((1, 0), (1, 1), (1, 2), (1, 3))))
        self.check(False, case, ("add", ((1, 0), (1, 1))), ("add", ((1, 5), (1, 2))), ("add", ((1, 5), (1, 3))))

    def test_numbers_at_the_edge(self):
        self.check(False, [total(x=1), total(x=-1)], CLASH)
        self.check(True, [total(x=1), total(-1, x=-1)], CLASH)
        self.check(False, [total(1, x=1), total(x=-1)], CLASH)

    def test_great_numbers(self):
        great = 10 ** 300
        case = [total(-1, x=great), total(great - 1, x=-great * great)]
        self.check(True, case, ("add", ((great, 0), (1, 1))))


class CutTest(PaperTest):
    def test_halves(self):
        case = [total(-1, x=2), total(1, x=-2)]
        self.check(False, case, CLASH)
        self.check(True, case, ("cut", 0, 2), ("cut", 1, 2), ("add", ((1, 2), (1, 3))))

    def test_number_below_0_goes_down(self):
        # At least 1/3 is at least 1.
        case = [total(-1, x=3, y=6), total(x=-1, y=-2)]
        self.check(True, case, ("cut", 0, 3), ("add", ((1, 2), (1, 1))))
        self.check(False, [total(x=3, y=6), case[1]], ("cut", 0, 3), ("add", ((1, 2), (1, 1))))

    def test_number_from_0_on_goes_down(self):
        # At most 5/3 is at most 1.
        case = [total(5, x=-3), total(-2, x=1)]
        self.check(True, case, ("cut", 0, 3), ("add", ((1, 2), (1, 1))))
        self.check(False, [total(6, x=-3), case[1]], ("cut", 0, 3), ("add", ((1, 2), (1, 1))))

    def test_a_divisor_that_leaves_a_rest(self):
        case = [total(-1, x=3, y=6), total(x=-1, y=-2)]
        for divisor in (2, 4, 5, 6, 9):
            self.check(False, case, ("cut", 0, divisor), ("add", ((1, 2), (1, 1))))
            self.check(False, case, ("cut", 0, divisor), ("cut", 0, 3), ("add", ((1, 3), (1, 1))))

    def test_one_term_of_several_leaves_a_rest(self):
        case = [total(-3, x=4, y=6), NEVER]
        self.check(False, case, ("cut", 0, 4), ("add", ((1, 1),)))
        self.check(False, case, ("cut", 0, 3), ("add", ((1, 1),)))
        self.check(True, case, ("cut", 0, 2), ("add", ((1, 1),)))

    def test_by_1(self):
        self.check(True, [NEVER], ("cut", 0, 1))
        self.check(True, [ABOVE, BELOW], ("cut", 0, 1), ("cut", 1, 1), ("add", ((1, 2), (1, 3))))

    def test_without_terms(self):
        for number in (-1, -2, -50):
            for divisor in (1, 2, 49, 1000):
                self.check(True, [total(number)], ("cut", 0, divisor))
        self.check(False, [total(0)], ("cut", 0, 5))
        self.check(False, [total(4)], ("cut", 0, 5))

    def test_a_cut_of_a_cut(self):
        case = [total(-1, x=12), total(x=-1)]
        self.check(True, case, ("cut", 0, 3), ("cut", 2, 2), ("cut", 3, 2), ("add", ((1, 4), (1, 1))))
        self.check(False, case, ("cut", 0, 3), ("cut", 2, 3), ("cut", 3, 2), ("add", ((1, 4), (1, 1))))

    def test_a_cut_of_a_sum(self):
        # Two like numbers don't make 1 together.
        case = [total(-1, x=1, y=1), total(1, x=-1, y=-1), total(x=1, y=-1), total(x=-1, y=1)]
        self.check(True, case, ("add", ((1, 0), (1, 2))), ("cut", 4, 2), ("add", ((1, 1), (1, 3))), ("cut", 6, 2),
                   ("add", ((1, 5), (1, 7))))


class SplitTest(PaperTest):
    # At 0 and below the first Sum isn't met, at 1 and above the second one isn't.
    case = [total(-1, x=2), total(1, x=-2)]
    split = ("split", total(-1, x=1), (("add", ((2, 2), (1, 1))),), (("add", ((2, 2), (1, 0))),))

    def test_both_papers(self):
        self.check(True, self.case, self.split)

    def test_behind_other_lines(self):
        one, other = (("add", ((2, 3), (1, 1))),), (("add", ((2, 3), (1, 0))),)
        self.check(True, self.case, ("add", ((7, 0),)), ("split", total(-1, x=1), one, other))
        self.check(False, self.case, ("add", ((7, 0),)), self.split)

    def test_lines_so_far_are_used_within(self):
        case = [total(-1, x=2, y=2), total(1, x=-2, z=2), total(y=-1), total(z=-1)]
        ahead = [("add", ((1, 0), (2, 2))), ("add", ((1, 1), (2, 3)))]
        one, other = (("add", ((2, 6), (1, 5))),), (("add", ((2, 6), (1, 4))),)
        self.check(True, case, *ahead, ("split", total(-1, x=1), one, other))

    def test_a_part_that_doesnt_end_well(self):
        word, one_sum, one, other = self.split
        self.check(False, self.case, (word, one_sum, one, ()))
        self.check(False, self.case, (word, one_sum, (), other))
        self.check(False, self.case, (word, one_sum, other, one))
        self.check(False, self.case, (word, one_sum, one, one))
        self.check(False, self.case, (word, one_sum, other, other))
        self.check(False, self.case, (word, one_sum, one + (("add", ((1, 0),)),), other))
        self.check(False, self.case, (word, one_sum, (("add", ((2, 3), (1, 1))),), other))
        self.check(False, self.case, (word, one_sum, one, (("cut", 0, 3),) + other))

    def test_the_other_side(self):
        # The other side of x - 1 is -x, so what lies between is in neither.
        word, one_sum, one, other = self.split
        self.check(False, self.case, (word, total(x=1), one, other))
        self.check(False, self.case, (word, total(-2, x=1), one, other))
        self.check(True, self.case, (word, total(x=-1), other, one))
        self.check(False, self.case, (word, total(1, x=-1), other, one))

    def test_isnt_the_last_line(self):
        case = [NEVER]
        split = ("split", total(x=1), (("add", ((1, 0),)),), (("add", ((1, 0),)),))
        self.check(True, case, split)
        self.check(False, case, split, ("add", ((1, 0),)))
        self.check(False, case, split, split)
        self.check(False, case, ("split", total(x=1), (split, split), (split,)))
        self.check(False, case, ("split", total(x=1), (split, ("add", ((1, 0),))), (split,)))
        self.check(True, case, ("split", total(x=1), (split,), (split,)))

    def test_without_lines_of_their_own(self):
        # One of the two sides of a Sum without terms is met by no numbers.
        for number in (0, 1, 9):
            self.check(True, [NEVER], ("split", total(number), (("add", ((1, 0),)),), ()))
            self.check(False, [NEVER], ("split", total(number), (), (("add", ((1, 0),)),)))
        for number in (-1, -2, -9):
            self.check(True, [NEVER], ("split", total(number), (), (("add", ((1, 0),)),)))
            self.check(False, [NEVER], ("split", total(number), (("add", ((1, 0),)),), ()))
        self.check(False, [NEVER], ("split", total(x=1), (), ()))

    def test_of_the_empty_case(self):
        self.check(False, [], ("split", total(0), (), ()))
        self.check(False, [], ("split", total(-1), (), ()))
        self.check(False, [], ("split", total(x=1), (("add", ((1, 0),)),), (("add", ((1, 0),)),)))

    def test_of_things_that_the_case_hasnt(self):
        self.check(True, [NEVER], ("split", total(4, p=7, q=-3), (("add", ((1, 0),)),), (("add", ((1, 0),)),)))

    def test_one_within_another(self):
        # Of 3*x = y and y from 1 to 2.
        case = [total(x=3, y=-1), total(x=-3, y=1), total(-1, y=1), total(2, y=-1)]
        cut = (("add", ((1, 0), (1, 2))), ("cut", 5, 3), ("add", ((3, 6), (1, 1), (1, 3))))
        inner = ("split", total(-1, x=1), (("add", ((3, 5), (1, 1), (1, 3))),), (("add", ((3, 5), (1, 0), (1, 2))),))
        self.check(True, case, ("split", total(-5, y=1), (("add", ((1, 4), (1, 3))),), (inner,)))
        self.check(True, case, ("split", total(-2, y=1), (inner,), (inner,)))
        self.check(True, case, ("split", total(-2, y=1), cut, (inner,)))


class DeepTest(PaperTest):
    def deep(self, count, sides):
        """A paper with so many splits within one another; the deeper one stands where sides tell in turn."""
        paper = (CLASH,)
        for place in range(count):
            parts = [(CLASH,), (CLASH,)]
            parts[sides[place % len(sides)]] = paper
            paper = (("split", total(place, x=1, y=place + 1), parts[0], parts[1]),)
        return paper

    def test_twenty_and_twenty_one(self):
        for sides in ((0,), (1,), (0, 1), (1, 1, 0)):
            for count in (1, 2, 19, 20):
                self.check(True, [ABOVE, BELOW], *self.deep(count, sides))
            for count in (21, 22, 40):
                self.check(False, [ABOVE, BELOW], *self.deep(count, sides))

    def test_lines_between(self):
        def deeper(count, ahead):
            if count == 0:
                return (CLASH,)
            inner = deeper(count - 1, ahead + 2)
            return (("add", ((1, 0), (2, ahead - 1))), ("split", total(x=1), inner, inner if count < 5 else (CLASH,)))
        self.check(True, [ABOVE, BELOW], *deeper(20, 2))
        self.check(False, [ABOVE, BELOW], *deeper(21, 2))

    def test_many_splits_that_arent_so_deep(self):
        chain = self.deep(19, (0, 1))
        self.check(True, [ABOVE, BELOW], ("split", total(x=1), chain, chain))
        self.check(False, [ABOVE, BELOW], ("split", total(x=1), chain, self.deep(20, (0, 1))))
        self.check(False, [ABOVE, BELOW], ("split", total(x=1), self.deep(20, (0, 1)), chain))

    def test_very_deep(self):
        self.check(False, [ABOVE, BELOW], *self.deep(80, (0, 1)))
        paper = (CLASH,)
        for _ in range(3000):
            paper = (("split", total(x=1), paper, paper),)
        self.assertIs(refutes([ABOVE, BELOW], paper), False)

    def test_all_parts_of_ten_within_one_another(self):
        paper = (CLASH,)
        for _ in range(10):
            paper = (("split", total(x=1), paper, paper),)
        self.assertIs(refutes([ABOVE, BELOW], paper), True)


class NoLinesTest(PaperTest):
    def test_the_last_sum_is_below_0(self):
        for number in (-1, -2, -10 ** 40):
            self.check(True, [total(number)])
            self.check(True, [total(x=1), total(number)])

    def test_others(self):
        for last in (total(0), total(1), total(-1, x=1), total(x=-1), total(-5, x=2, y=3)):
            self.check(False, [last])
            self.check(False, [NEVER, last])

    def test_the_empty_case(self):
        self.check(False, [])
        self.check(False, [], ("add", ()))
        self.check(False, [], ("add", ((1, 0),)))
        self.check(False, [], ("cut", 0, 1))

    def test_the_last_line_alone_counts(self):
        case = [total(x=1), NEVER]
        self.check(False, case, ("add", ((1, 0),)))
        self.check(False, case, ("add", ((1, 1),)), ("add", ((1, 0),)))
        self.check(False, case, ("add", ((1, 1),)), ("add", ((1, 0), (1, 1))))
        self.check(True, case, ("add", ((1, 0),)), ("add", ((1, 1),)))


class CheckerTest(unittest.TestCase):
    def drawn_from(self, name):
        tree = ast.parse((PACKAGE / (name + ".py")).read_text(encoding="utf-8"))
        return {node.module.split(".")[1] for node in tree.body if isinstance(node, ast.ImportFrom)}

    def test_it_knows_nothing_of_programs(self):
        self.assertEqual(self.drawn_from("papers"), {"sums"})
        self.assertEqual(self.drawn_from("sums"), set())

    def test_the_same_each_time(self):
        case, paper = [ABOVE, BELOW], [CLASH]
        for _ in range(3):
            self.assertIs(refutes(case, paper), True)
        paper.clear()
        self.assertIs(refutes(case, paper), False)
        paper.append(CLASH)
        case.append(total(1))
        self.assertIs(refutes(case, paper), True)

    def test_names_of_arguments(self):
        self.assertIs(refutes(case=(NEVER,), paper=()), True)

    def test_sums_of_the_paper_stay(self):
        side = total(-1, x=1)
        refutes((ABOVE, BELOW), (("split", side, (CLASH,), (CLASH,)),))
        self.assertEqual(told_sum(side), ((("x", 1),), -1))
        self.assertIsInstance(side, Sum)


if __name__ == "__main__":
    unittest.main()
