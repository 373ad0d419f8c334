import random
import unittest

from holdwright.errors import Fault, NoRun
from holdwright.programs import Helper, Program
from holdwright.runs import run
from holdwright.steps import Call, Let, Make, Put
from support import DrawnSense, Walked, outcome, program_of, total


class RunTest(unittest.TestCase):
    def check(self, answers, rows, given, *text):
        """The run of the last helper, with what is given."""
        program = program_of(*text)
        told = program.told()
        found = run(program, program.helpers[-1].name, given)
        self.assertEqual(found, (answers, rows))
        self.assert_kinds(found)
        self.assertEqual(program.told(), told)

    def assert_kinds(self, found):
        self.assertIs(type(found), tuple)
        self.assertEqual([type(part) for part in found], [tuple, tuple])
        self.assertEqual([type(row) for row in found[1]], [tuple] * len(found[1]))
        for number in found[0] + sum(found[1], ()):
            self.assertIs(type(number), int)


class AnswersTest(RunTest):
    def test_nothing(self):
        self.check((), (), [], "helper f", "end")
        self.check((), (), (), "helper f", "let x = 1", "end")

    def test_answers_in_their_order(self):
        self.check((2, 1, 3), (), [], "helper f", "answers y x z", "let x = 1", "let y = 2", "let z = 3", "end")

    def test_rows_in_the_order_of_the_params(self):
        self.check((), ((4, 5), (), (7,)), [[4, 5], 3, [], [7]], "helper f #b x #c #a", "end")

    def test_both(self):
        self.check((8,), ((1, 8),), [5, [1, 2]], "helper f n #a", "answers s", "let s = n + 3", "put a at 1 = s", "end")

    def test_own_rows_are_not_told(self):
        self.check((), ((9,),), [[9]], "helper f #a", "row b = 3", "put b at 0 = 1", "end")

    def test_numbers_of_any_size(self):
        big = 10 ** 60 + 7
        self.check((3 * big, -big), ((-big, big),), [big, [-big, 0]], "helper f n #a", "answers x y", "let x = 3*n",
                   "let y = a at 0", "put a at 1 = n", "end")

    def test_the_helper_of_that_name(self):
        program = program_of("helper f", "answers x", "let x = 1", "end", "helper g", "answers x", "let x = 2", "end")
        self.assertEqual(run(program, "f", []), ((1,), ()))
        self.assertEqual(run(program, "g", []), ((2,), ()))

    def test_run_again(self):
        program = program_of("helper f n #a", "answers x", "put a at 0 = n", "let x = x + n", "end")
        for _ in range(3):
            self.assertEqual(run(program, "f", [4, [1, 2]]), ((4,), ((4, 2),)))

    def test_names_of_arguments(self):
        program = program_of("helper f n", "answers x", "let x = n", "end")
        self.assertEqual(run(program=program, name="f", given=[3], most=1), ((3,), ()))


class GivenTest(RunTest):
    def setUp(self):
        self.program = program_of("helper f n #a m", "put a at 0 = n", "end", "helper g", "end", "helper h #a #b",
                                  "put a at 0 = 5", "put b at 1 = 6", "end")

    def refused(self, name, given):
        with self.assertRaises(NoRun) as taken:
            run(self.program, name, given)
        self.assertIs(type(taken.exception), NoRun)

    def test_lists_and_tuples(self):
        for given in ([1, [2], 3], (1, (2,), 3), [1, (2,), 3], (1, [2], 3)):
            self.assertEqual(run(self.program, "f", given), ((), ((1,),)))

    def test_what_is_given_stays(self):
        row = [2, 3]
        given = [1, row, 3]
        run(self.program, "f", given)
        self.assertEqual((row, given), ([2, 3], [1, [2, 3], 3]))
        self.assertIs(given[1], row)

    def test_it_stays_behind_a_fault(self):
        program = program_of("helper f #a", "put a at 0 = 9", "claim 0 = 1", "end")
        row = [2, 3]
        self.assertEqual(outcome(program, "f", [row]), ("fault", "claim", 2))
        self.assertEqual(row, [2, 3])

    def test_one_list_given_twice_is_two_rows(self):
        row = [1, 2]
        self.assertEqual(run(self.program, "h", [row, row]), ((), ((5, 2), (1, 6))))
        self.assertEqual(row, [1, 2])

    def test_what_is_told_is_no_list_given(self):
        row = [1]
        found = run(self.program, "f", [1, row, 3])
        row.append(7)
        self.assertEqual(found, ((), ((1,),)))

    def test_no_helper_of_that_name(self):
        for name in ("k", "", "F", "ff", "helper"):
            self.refused(name, [1, [2], 3])
            self.refused(name, [])

    def test_a_thing_more_or_less(self):
        for given in ([], [1], [1, [2]], [1, [2], 3, 4], [1, [2], 3, [4]], ((2,), 1, 3, 4)):
            self.refused("f", given)
        self.refused("g", [0])
        self.refused("g", [[]])

    def test_one_of_the_other_kind(self):
        for given in ([[1], [2], 3], [1, 2, 3], [1, [2], [3]], [(), [2], 3], [1, 0, 3], [1, (), ()], [[2], 1, 3]):
            self.refused("f", given)

    def test_truths_are_no_numbers(self):
        for given in ([True, [2], 3], [1, [2], False], [1, [True], 3], [1, True, 3]):
            self.refused("f", given)

    def test_ahead_of_needs_and_steps(self):
        program = program_of("helper f n", "needs n > 5", "claim 0 = 1", "end")
        with self.assertRaises(NoRun):
            run(program, "f", [[]])
        with self.assertRaises(NoRun):
            run(program, "g", [1])

    def test_the_name_ahead_of_what_is_given(self):
        with self.assertRaises(NoRun):
            run(self.program, "k", [[], [], []])


class StepsTest(RunTest):
    def test_numbers_are_nought_and_rows_empty_at_first(self):
        self.check((0, 0, 0, 0), (), [], "helper f", "answers x y z w", "let x = y + z", "let z = #a", "let w = u", "end")
        self.check((1,), (), [], "helper f", "answers x", "if y = 0 and #b = 0", "let x = 1", "end", "end")

    def test_they_are_so_each_time_a_helper_is_done(self):
        self.check((1, 1), (), [], "helper g", "answers x", "let y = y + 1", "let x = y + #a", "row a = 4", "end",
                   "helper f", "answers x y", "call x = g", "call y = g", "end")

    def test_names_that_stand_in_writings_alone(self):
        self.check((3,), (), [], "helper f", "answers i", "while i < 3", "holds u = #b", "falls 3 - i + v + #c",
                   "let i = i + 1", "end", "end")

    def test_let(self):
        self.check((7, -3), (), [5, 2], "helper f a b", "answers x y", "let x = a + b", "let y = b - a", "end")
        self.check((11,), (), [3], "helper f n", "answers x", "let x = n", "let x = 2*x + x + 2", "end")

    def test_lengths(self):
        self.check((3, 0, 5), (), [], "helper f", "answers x y z", "row a = 3", "let x = #a",
                   "row a = 0", "let y = #a", "row a = 5", "let z = #a", "end")
        self.check((3,), ((1, 1, 1),), [[1, 1, 1]], "helper f #a", "answers x", "let x = #a", "end")

    def test_div_and_mod_either_way(self):
        for one in range(-9, 10):
            for by in (-4, -3, -2, -1, 1, 2, 3, 4):
                found = run(program_of("helper f n m", "answers q r", "let q = n div m", "let r = n mod m", "end"),
                            "f", [one, by])[0]
                written = run(program_of("helper f n", "answers q r", f"let q = n div {by}", f"let r = n mod {by}",
                                         "end"), "f", [one])[0]
                quotient, left = found
                self.assertEqual(found, written)
                self.assertEqual(left, one - by * quotient)
                # By a whole number above nought, so that the signs of the sides may be told plainly.
                size, scaled = abs(by), one if by > 0 else -one
                self.assertTrue(quotient * size <= scaled < (quotient + 1) * size, (one, by, found))

    def test_div_of_sums_and_into_what_is_divided(self):
        self.check((4, 1), (), [9], "helper f x", "answers y z", "let y = x + 1 div 3 - 1", "let y = y + 4 div 2",
                   "let z = 2*x - 1 mod y", "end")

    def test_div_of_great_numbers(self):
        self.check((-(10 ** 40) - 1, 2), (), [-(3 * 10 ** 40 + 1)], "helper f x", "answers y z", "let y = x div 3",
                   "let z = x mod 3", "end")

    def test_fetch_and_put(self):
        self.check((4, 6), ((4, 9, 6),), [[4, 5, 6]], "helper f #a", "answers x y", "let x = a at 0",
                   "let y = a at #a - 1", "put a at 1 = x + 5", "end")
        self.check((), ((1, 1),), [[0, 1]], "helper f #a", "let i = a at 1", "let i = a at i", "put a at i - 1 = i",
                   "end")

    def test_rows_made_anew(self):
        self.check((0, 5, 0), (), [], "helper f", "answers x y z", "row a = 2", "let x = a at 1", "put a at 1 = 5",
                   "let y = a at 1", "row a = 2", "let z = a at 1", "end")
        self.check((1,), (), [], "helper f", "answers x", "row a = 1", "row a = #a + #a", "let x = #a - 1", "end")

    def test_choose(self):
        text = ("helper f n", "answers x", "if n < 3", "let x = 1", "else", "let x = 2", "let x = x + n", "end", "end")
        self.check((1,), (), [2], *text)
        self.check((5,), (), [3], *text)
        self.check((7,), (), [3], "helper f n", "answers x", "let x = 7", "if n < 3", "let x = 1", "end", "end")

    def test_the_condition_is_looked_at_once(self):
        self.check((2, 0), (), [], "helper f", "answers x y", "if x = 0", "let x = 2", "else", "let y = 3", "end", "end")

    def test_repeat(self):
        text = ("helper f n", "answers s i", "while i < n", "holds i <= n or n < 0", "falls n - i", "let i = i + 1",
                "let s = s + i", "end", "end")
        self.check((10, 4), (), [4], *text)
        self.check((0, 0), (), [0], *text)
        self.check((0, 0), (), [-2], *text)

    def test_blocks_within_one_another(self):
        self.check((12, 3), (), [], "helper f", "answers s i", "while i < 3", "let j = 0", "while j < 2",
                   "if i = 1", "let s = s + 2", "else", "let s = s + 2*j", "let s = s + j - j + 1", "end",
                   "let j = j + 1", "end", "let i = i + 1", "end", "end")

    def test_sorting_a_row(self):
        text = ("helper sort #a", "gives 0 <= #a", "let i = 0", "while i < #a", "holds 0 <= i and i <= #a",
                "falls #a - i", "let j = i", "while j > 0", "holds j >= 0", "falls j", "let x = a at j",
                "let y = a at j - 1", "if x < y", "put a at j = y", "put a at j - 1 = x", "end", "let j = j - 1", "end",
                "let i = i + 1", "end", "end")
        chance = random.Random(19)
        for length in range(9):
            row = [chance.randint(-5, 5) for _ in range(length)]
            self.check((), (tuple(sorted(row)),), [row], *text)


class CallTest(RunTest):
    def test_answers_become_the_names(self):
        self.check((3, 7), (), [], "helper g n m", "answers d s", "let d = n - m", "let s = n + m", "end",
                   "helper f", "answers x y", "call x y = g 5, 2", "end")
        self.check((7, 3), (), [], "helper g n m", "answers d s", "let d = n - m", "let s = n + m", "end",
                   "helper f", "answers x y", "call y x = g 5, 2", "end")

    def test_what_is_given_is_reckoned_ahead_and_names_set_behind(self):
        swap = ("helper g n m", "answers p q", "let p = m", "let q = n", "end")
        self.check((2, 1), (), [], *swap, "helper f", "answers x y", "let x = 1", "let y = 2", "call x y = g x, y",
                   "end")
        self.check((9, 4), (), [], *swap, "helper f", "answers x y", "let x = 4", "call x y = g x, 2*x + 1", "end")

    def test_a_given_row_is_the_callers_own(self):
        put = ("helper g #r n", "put r at 0 = n", "end")
        self.check((), ((8, 2),), [[1, 2]], *put, "helper f #a", "call g #a, 8", "end")
        self.check((8, 0), (), [], *put, "helper f", "answers x y", "row c = 2", "call g #c, 8", "let x = c at 0",
                   "let y = c at 1", "end")

    def test_through_two_calls(self):
        self.check((), ((1, 8),), [[1, 2]], "helper g #r", "put r at 1 = 8", "end", "helper h #q", "call g #q", "end",
                   "helper f #a", "call h #a", "end")

    def test_one_row_for_two_params(self):
        self.check((5, 6), ((6,),), [[1]], "helper g #p #q", "answers x y", "put p at 0 = 5", "let x = q at 0",
                   "put q at 0 = 6", "let y = p at 0", "end", "helper f #a", "answers x y", "call x y = g #a, #a", "end")

    def test_what_is_put_is_seen_in_the_callers_own_run(self):
        self.check((8,), ((8,),), [[1]], "helper g #r", "put r at 0 = 8", "end", "helper f #a", "answers x",
                   "call g #a", "let x = a at 0", "end")

    def test_a_length_given_for_a_number(self):
        self.check((3,), (), [], "helper g n", "answers x", "let x = n", "end", "helper f", "answers x", "row a = 3",
                   "call x = g #a", "end")

    def test_lengths_of_given_rows(self):
        self.check((2, 0), ((4, 4),), [[4, 4]], "helper g #p #q", "answers x y", "needs #p > #q", "gives x = #p",
                   "let x = #p", "let y = #q", "end", "helper f #a", "answers x y", "call x y = g #a, #b", "end")

    def test_names_of_the_called_one_are_its_own(self):
        self.check((4, 1, 2), (), [], "helper g x", "answers y", "let z = 50", "row a = 9", "let y = x + 1", "end",
                   "helper f", "answers x y z", "row a = 2", "let y = 1", "call x = g 3", "let z = #a + z", "end")

    def test_without_answers_and_without_things_given(self):
        self.check((), (), [], "helper g", "end", "helper f", "call g", "end")
        self.check((6,), (), [], "helper g", "answers x", "let x = 6", "end", "helper f", "answers y", "call y = g",
                   "end")

    def test_programs_made_by_hand(self):
        inner = Helper(0, "g", ["#r", "n"], ["y"], [], [], [Put(1, "r", total(), total(0, n=1)),
                                                           Let(2, "y", total(0, **{"#r": 1}))])
        call = Call(6, ["x"], "g", [total(0, **{"#c": 1}), total(4)])
        outer = Helper(4, "f", [], ["x"], [], [], [Make(5, "c", total(2)), call])
        self.assertEqual(run(Program([inner, outer]), "f", []), ((2,), ()))


class DrawnTest(RunTest):
    def test_runs_of_drawn_programs(self):
        chance = random.Random(18)
        seen = {}
        for _ in range(700):
            drawn = DrawnSense(chance)
            program = program_of(*drawn.rows)
            told = program.told()
            for _ in range(3):
                name, most = chance.choice(drawn.heads)[0], chance.choice((3, 10, 40, 300))
                given = drawn.given(name)
                kept = repr(given)
                walked = Walked(program.told(), name, given, most)
                found = outcome(program, name, given, most)
                self.assertEqual(found, walked.outcome, (drawn.rows, name, given, most))
                self.assertEqual(repr(given), kept)
                kind = found[1] if found[0] == "fault" else "done"
                seen[kind] = seen.get(kind, 0) + 1
                if kind == "done":
                    self.assert_kinds(found)
                    self.assertEqual(outcome(program, name, given, max(walked.turns, 1)), found)
                    if walked.turns > 1:
                        self.assertEqual(outcome(program, name, given, walked.turns - 1)[:2], ("fault", "long"))
            self.assertEqual(program.told(), told)
        for kind in ("done", "needs", "nought", "beyond", "short", "claim", "first", "bound", "again", "falls", "gives",
                     "long"):
            self.assertGreater(seen.get(kind, 0), 20, seen)


class ManyTurnsTest(RunTest):
    def test_the_most_turns(self):
        program = program_of("helper g n", "answers y", "let y = n + 1", "end", "helper f n", "answers i",
                             "while i < n", "falls n - i", "call i = g i", "end", "end")
        self.assertEqual(run(program, "f", [33333], 100000), ((33333,), ()))
        with self.assertRaises(Fault):
            run(program, "f", [33334], 100000)

    def test_long_helpers_called_again_and_again(self):
        body = [f"let x = x + {k}" if k % 2 else f"claim x != -{k}" for k in range(150)]
        program = program_of("helper g n", "answers x", "if n < 0", *body, "end", "end", "helper f", "answers i",
                             "while i < 20000", "call x = g i", "let i = i + 1", "end", "end")
        self.assertEqual(run(program, "f", [], 100000), ((20000,), ()))


if __name__ == "__main__":
    unittest.main()
