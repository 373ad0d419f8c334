import unittest

from holdwright.errors import Fault, WritError
from holdwright.runs import run
from support import outcome, program_of


class FaultTest(unittest.TestCase):
    def faulty(self, kind, at, given, *text, most=1000):
        """The run of the last helper comes to this Fault."""
        program = program_of(*text)
        with self.assertRaises(Fault) as taken:
            run(program, program.helpers[-1].name, given, most)
        self.assertEqual((taken.exception.kind, taken.exception.at), (kind, at))
        self.assertIs(type(taken.exception.at), int)
        self.assertIsInstance(taken.exception, WritError)

    def fine(self, given, *text, most=1000):
        program = program_of(*text)
        return run(program, program.helpers[-1].name, given, most)


class StepsTest(FaultTest):
    def test_nought(self):
        for word in ("div", "mod"):
            self.faulty("nought", 2, [0], "helper f n", "let x = 1", f"let x = 5 {word} n", "end")
            self.faulty("nought", 1, [], "helper f", f"let x = 0 {word} 0", "end")
            self.faulty("nought", 1, [7], "helper f n", f"let x = n {word} 2*n - 14", "end")
            self.fine([1], "helper f n", f"let x = 5 {word} n", "end")
            self.fine([-1], "helper f n", f"let x = 0 {word} n", "end")

    def test_beyond(self):
        for row in ("let x = a at i", "put a at i = 5"):
            for length in range(4):
                for place in range(-2, 6):
                    text = ("helper f #a i", "let y = 1", row, "end")
                    if 0 <= place < length:
                        self.fine([[7] * length, place], *text)
                    else:
                        self.faulty("beyond", 2, [[7] * length, place], *text)

    def test_beyond_in_empty_and_new_rows(self):
        self.faulty("beyond", 1, [], "helper f", "let x = c at 0", "end")
        self.faulty("beyond", 2, [], "helper f", "row c = 2", "put c at 2 = 1", "end")
        self.faulty("beyond", 3, [], "helper f", "row c = 2", "row c = 1", "let x = c at 1", "end")
        self.faulty("beyond", 1, [[1]], "helper f #a", "let x = a at -1", "end")

    def test_short(self):
        for size in (-5, -1):
            self.faulty("short", 1, [size], "helper f n", "row c = n", "end")
        self.fine([0], "helper f n", "row c = n", "end")
        self.faulty("short", 2, [], "helper f", "row c = 1", "row c = #c - 2", "end")

    def test_claim(self):
        self.faulty("claim", 2, [3], "helper f n", "claim n = 3", "claim n < 3", "claim n < 2", "end")
        self.fine([2], "helper f n", "claim n < 3", "end")

    def test_steps_ahead_come_first(self):
        self.faulty("claim", 1, [], "helper f", "claim 0 = 1", "let x = 1 div 0", "end")
        self.faulty("nought", 1, [], "helper f", "let x = 1 div 0", "claim 0 = 1", "end")

    def test_sides_that_are_not_done(self):
        text = ("helper f n", "if n = 0", "claim 0 = 1", "else", "let x = 1 div 0", "end", "end")
        self.faulty("claim", 2, [0], *text)
        self.faulty("nought", 4, [1], *text)


class NeedsTest(FaultTest):
    def test_the_runs_own_helper(self):
        text = ("helper f n #a", "answers x", "needs n > 1", "needs n > 2", "needs n < #a", "end")
        self.faulty("needs", 2, [1, [0] * 9], *text)
        self.faulty("needs", 3, [2, [0] * 9], *text)
        self.faulty("needs", 4, [3, [0] * 3], *text)
        self.faulty("needs", 3, [2, []], *text)
        self.fine([3, [0] * 4], *text)

    def test_ahead_of_the_steps(self):
        self.faulty("needs", 1, [1], "helper f n", "needs n > 1", "gives n > 1", "claim n > 1", "end")

    def test_a_called_one(self):
        text = ("helper g n #a", "needs n > 1", "needs n < #a", "claim n = 50", "end",
                "helper f n #b", "needs n > 0", "let m = n - 1", "call g m, #b", "end")
        self.faulty("needs", 6, [0, []], *text)
        self.faulty("needs", 8, [2, [0] * 9], *text)
        self.faulty("needs", 8, [5, [0] * 3], *text)
        self.faulty("claim", 3, [5, [0] * 9], *text)

    def test_a_called_one_of_a_called_one(self):
        text = ("helper g n", "needs n > 1", "end", "helper h n", "needs n > 0", "call g n", "end",
                "helper f n", "call h n", "end")
        self.faulty("needs", 5, [1], *text)
        self.faulty("needs", 8, [0], *text)
        self.fine([2], *text)

    def test_one_row_for_two_params(self):
        text = ("helper g #a #b", "needs #a < #b", "end", "helper f #c #d")
        self.faulty("needs", 4, [[1], [1, 2]], *text, "call g #c, #c", "end")
        self.fine([[1], [1, 2]], *text, "call g #c, #d", "end")


class LoopTest(FaultTest):
    def test_first(self):
        text = ("helper f n", "while n < 0", "holds n > 1", "holds n > 2", "end", "end")
        self.faulty("first", 2, [1], *text)
        self.faulty("first", 3, [2], *text)
        self.fine([3], *text)

    def test_first_where_the_loop_does_nothing(self):
        self.faulty("first", 2, [], "helper f", "while 0 = 1", "holds 0 = 1", "end", "end")

    def test_first_each_time_the_while_is_come_to(self):
        self.faulty("first", 3, [], "helper f", "while i < 3", "while j < 0", "holds i < 2", "end", "let i = i + 1",
                    "end", "end")

    def test_again(self):
        text = ("helper f n", "while i < 5", "holds i <= n", "holds 2*i <= n + 2", "let i = i + 1", "end", "end")
        self.faulty("again", 2, [0], *text)
        self.faulty("again", 2, [1], *text)
        self.faulty("again", 3, [3], *text)
        self.faulty("again", 3, [4], *text)
        self.fine([8], *text)

    def test_holds_may_fail_within_a_round(self):
        self.fine([], "helper f", "while i < 3", "holds x = 0", "let x = 1", "let i = i + 1", "let x = 0", "end", "end")

    def test_bound(self):
        self.faulty("bound", 2, [], "helper f", "while i < 3", "falls 1 - i", "let i = i + 1", "end", "end")
        self.faulty("bound", 3, [], "helper f", "while i < 3", "holds i >= 0", "falls -1", "claim 0 = 1", "end", "end")

    def test_no_bound_where_the_condition_doesnt_hold(self):
        self.fine([], "helper f", "while i < 2", "falls 1 - i", "let i = i + 1", "end", "end")
        self.fine([], "helper f", "while i < 0", "falls -5", "end", "end")

    def test_a_bound_of_nought(self):
        self.fine([], "helper f", "while i < 3", "falls 2 - i", "let i = i + 1", "end", "end")

    def test_falls(self):
        self.faulty("falls", 2, [], "helper f", "while i < 3", "falls 5", "let i = i + 1", "end", "end")
        self.faulty("falls", 2, [], "helper f", "while i < 3", "falls i", "let i = i + 1", "end", "end")
        self.fine([], "helper f", "while i < 9", "falls 50 - i", "let i = i + 4", "end", "end")

    def test_falls_below_nought_at_last(self):
        self.fine([], "helper f", "while i < 3", "falls 2 - i", "let i = i + 9", "end", "end")

    def test_falls_from_this_rounds_beginning(self):
        self.faulty("falls", 2, [], "helper f", "while i < 9", "falls 5 - x", "let i = i + 1", "if i = 1", "let x = 3",
                    "else", "let x = 2", "end", "end", "end")

    def test_again_ahead_of_falls(self):
        self.faulty("again", 2, [], "helper f", "while i < 3", "holds i = 0", "falls 5", "let i = i + 1", "end", "end")

    def test_falls_ahead_of_the_next_bound(self):
        self.faulty("falls", 2, [], "helper f", "while i < 3", "falls i", "let i = i", "end", "end")

    def test_loops_within_one_another(self):
        text = ("helper f n", "while i < 2", "falls 2 - i", "let j = 0", "while j < n", "holds j <= 3", "falls 4 - j",
                "let j = j + 1", "end", "let i = i + 1", "end", "end")
        self.faulty("again", 5, [4], *text)
        self.fine([3], *text)


class GivesTest(FaultTest):
    def test_the_runs_own(self):
        text = ("helper f n #a", "answers x", "gives x > n", "gives x = #a", "let x = n + 1", "end")
        self.faulty("gives", 3, [0, []], *text)
        self.fine([0, [5]], *text)
        self.faulty("gives", 1, [0], "helper f n", "gives n = 1", "gives n = 2", "end")

    def test_behind_the_steps(self):
        self.faulty("claim", 3, [], "helper f", "answers x", "gives x = 1", "claim x = 1", "end")

    def test_a_called_one(self):
        text = ("helper g n", "answers y", "gives y > n", "let y = 3", "end",
                "helper f n", "answers y", "gives y < 0", "call y = g n", "end")
        self.faulty("gives", 2, [3], *text)
        self.faulty("gives", 7, [2], *text)

    def test_what_a_called_one_comes_to_is_the_runs(self):
        self.faulty("nought", 1, [0], "helper g n", "let x = 1 div n", "end", "helper f n", "call g n", "claim n > 5",
                    "end")
        self.faulty("beyond", 1, [[]], "helper g #a", "put a at 0 = 1", "end", "helper f #a", "call g #a", "end")


class LongTest(FaultTest):
    def turns(self, count, at, given, *text):
        """The run takes just so many turns; the last one is at that row."""
        self.fine(given, *text, most=count)
        self.fine(given, *text, most=count + 1)
        if count > 1:
            self.faulty("long", at, given, *text, most=count - 1)

    def test_plain_steps(self):
        self.turns(1, 1, [], "helper f", "let x = 1", "end")
        self.turns(3, 3, [], "helper f", "let x = 1", "claim x = 1", "let x = 2", "end")
        self.turns(6, 6, [], "helper f", "row a = 2", "put a at 0 = 1", "let x = a at 0", "let x = x div 2",
                   "let x = x mod 2", "claim x = 0", "end")

    def test_no_turn_at_all(self):
        self.fine([3], "helper f n", "needs n = 3", "gives n = 3", "end", most=1)

    def test_choices(self):
        text = ("helper f n", "if n = 0", "let x = 1", "let x = 2", "else", "let x = 3", "end", "end")
        self.turns(3, 3, [0], *text)
        self.turns(2, 5, [1], *text)
        self.turns(1, 1, [0], "helper f n", "if n = 1", "let x = 1", "end", "end")

    def test_looks(self):
        text = ("helper f n", "while i < n", "let i = i + 1", "end", "end")
        for rounds in range(5):
            self.turns(2 * rounds + 1, 1, [rounds], *text)

    def test_each_turn_of_a_loop(self):
        text = ("helper f", "while i < 2", "let i = i + 1", "let x = i", "end", "claim x = 2", "end")
        for most, at in enumerate((2, 3, 1, 2, 3, 1, 5), 1):
            self.faulty("long", at, [], *text, most=most)
        self.fine([], *text, most=8)

    def test_a_loop_without_steps(self):
        self.faulty("long", 1, [], "helper f", "while 0 = 0", "end", "end", most=7)

    def test_holds_and_falls_are_no_turns(self):
        self.turns(5, 1, [2], "helper f n", "while i < n", "holds i >= 0", "holds i <= n", "falls n - i",
                   "let i = i + 1", "end", "end")

    def test_calls(self):
        text = ("helper g n", "needs n = n", "let x = n", "let y = n", "end", "helper f", "call g 3", "call g 4", "end")
        self.turns(6, 3, [], *text)
        for most, at in ((1, 2), (2, 3), (3, 7), (4, 2), (5, 3)):
            self.faulty("long", at, [], *text, most=most)

    def test_calls_within_one_another(self):
        text = ("helper g", "let x = 1", "end", "helper h", "call g", "let x = 1", "call g", "end",
                "helper f", "let x = 1", "call h", "let x = 1", "end")
        for most, at in ((1, 10), (2, 4), (3, 1), (4, 5), (5, 6), (6, 1), (7, 11)):
            self.faulty("long", at, [], *text, most=most)
        self.fine([], *text, most=8)

    def test_calls_in_loops(self):
        text = ("helper g n", "answers x", "while x < n", "let x = x + 1", "end", "end",
                "helper f", "while i < 2", "call i = g i + 1", "end", "end")
        # Two rounds: a look, the call, and within it 3 and then 5 turns; a look at last.
        self.turns(13, 7, [], *text)

    def test_the_runs_own_call_is_no_turn(self):
        self.fine([], "helper f", "let x = 1", "end", most=1)

    def test_most_left_out(self):
        text = ("helper f n", "answers i", "while i < n", "let i = i + 1", "end", "let i = i", "end")
        program = program_of(*text)
        self.assertEqual(run(program, "f", [499]), ((499,), ()))
        self.assertEqual(outcome(program, "f", [500]), ("fault", "long", 2))
        self.assertEqual(outcome(program, "f", [501]), ("fault", "long", 2))
        program = program_of(*text[:-1], "let i = 7", "end")
        self.assertEqual(run(program, "f", [498]), ((7,), ()))
        self.assertEqual(outcome(program, "f", [499]), ("fault", "long", 6))

    def test_ahead_of_all_else_of_the_step(self):
        for row in ("claim 0 = 1", "let x = 1 div 0", "let x = a at 0", "put a at 0 = 0", "row a = -1"):
            self.faulty("long", 2, [], "helper f", "let x = 1", row, "end", most=1)
        self.faulty("long", 5, [], "helper g", "needs 0 = 1", "end", "helper f", "let x = 1", "call g", "end", most=1)

    def test_ahead_of_what_a_look_does(self):
        text = ("helper f", "let x = 1", "while x = 1", "falls -1", "end", "end")
        self.faulty("long", 2, [], *text, most=1)
        self.faulty("bound", 3, [], *text, most=2)

    def test_first_is_ahead_of_the_first_looks_turn(self):
        text = ("helper f", "let x = 1", "while x = 1", "holds x = 2", "end", "end")
        self.faulty("first", 3, [], *text, most=1)

    def test_again_and_falls_are_ahead_of_the_next_looks_turn(self):
        text = ("helper f", "while i < 9", "holds i = 0", "let i = 1", "end", "end")
        self.faulty("again", 2, [], *text, most=2)
        self.faulty("long", 3, [], *text, most=1)
        text = ("helper f", "while i < 9", "falls i", "let i = 1", "end", "end")
        self.faulty("falls", 2, [], *text, most=2)

    def test_gives_behind_the_last_turn(self):
        text = ("helper f", "answers x", "gives x = 2", "let x = 1", "end")
        self.faulty("gives", 2, [], *text, most=1)

    def test_needs_ahead_of_any_turn(self):
        self.faulty("needs", 1, [0], "helper f n", "needs n = 1", "let x = 1", "end", most=1)


if __name__ == "__main__":
    unittest.main()
