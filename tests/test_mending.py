"""What the mender puts in, in which order, and what it takes out again."""

import random
import unittest

from holdwright.errors import TooMany
from holdwright.looking import let_by, looked
from holdwright.mending import mended
from holdwright.programs import Helper, Program, written
from holdwright.reading import read
from holdwright.sensing import sensible
from holdwright.steps import Let, Repeat
from support import DrawnSense, compare, outcome, program_of, total
from support_looking import COUNT, GCD, SEARCH, SORT, fault_of, too_many_paths
from support_mending import DrawnLoops, first_word, rows_of, second_mended


def several(condition, count):
    return " and ".join([condition] * count)


def claims_of(condition, count):
    """Rows that claim the condition so many times, at most eight of them in one row."""
    return ["claim " + several(condition, min(8, count - done)) for done in range(0, count, 8)]


class MendedTest(unittest.TestCase):
    def mend(self, *rows):
        """The rows of the mended program, of which all is right that is promised of every one."""
        program = program_of(*rows)
        self.assertIsNone(sensible(program))
        before = program.told()
        found = mended(program)
        self.assertEqual(program.told(), before)
        self.assertIsInstance(found, Program)
        self.assertEqual(found.told(), read(written(found)).told())
        self.assertEqual(mended(program).told(), found.told())
        self.assertIsNone(sensible(found))
        self.check_rows(program, found)
        return rows_of(found)

    def check_rows(self, program, found):
        """Each row of the program is there, and each other one is a holds or falls of which all is shown; tells
        where each row of the program's stands now."""
        place, new, stands = 0, [], []
        first = rows_of(program)
        for at, row in enumerate(rows_of(found)):
            if place < len(first) and row == first[place]:
                stands.append(at)
                place += 1
            else:
                self.assertIn(first_word(row), ("holds", "falls"))
                new.append(at)
        self.assertEqual(place, len(first))
        self.assertTrue(all(word == "shown" for at, word in self.words(found) if at in new))
        return stands

    def words(self, program):
        found = []
        for helper in program.helpers:
            try:
                found += [(at, word) for kind, at, word, shown in looked(program, helper.name)]
            except TooMany:
                continue
        return found

    def put_in(self, *rows):
        """The rows that were put in, in order; the program has no equal ones."""
        found = self.mend(*rows)
        return [row for row in found if row not in rows_of(program_of(*rows))]


class CandidatesTest(MendedTest):
    def test_a_loop_that_counts(self):
        rows = ["helper f n", "needs 0 <= n", "while i < n", "let i = i + 1", "end", "claim i = n", "end"]
        self.assertIs(let_by(program_of(*rows)), False)
        found = self.mend(*rows)
        self.assertEqual(found, rows[:3] + ["holds i <= n", "holds 0 <= i", "falls -i + n"] + rows[3:])
        self.assertIs(let_by(program_of(*found)), True)

    def test_each_sign(self):
        for condition, expected in (
                ("i < n", ["i <= n", "0 <= i"]), ("i <= n", ["0 <= i"]), ("n > i", ["n >= i", "0 <= i", "i <= n"]),
                ("n >= i", ["0 <= i"]), ("i != n", ["0 <= i", "i <= n"]), ("i = n", ["0 <= i"]),
                ("not (i >= n)", ["0 <= i", "i <= n"]), ("i < n and i < m", ["0 <= i", "i <= m", "i <= n"]),
                ("i < n or i < m", ["0 <= i"]), ("n - i > 0", ["-i + n >= 0", "0 <= i", "i <= n"])):
            found = self.put_in("helper f n m", "needs 0 <= n and 0 <= m", "while " + condition, "let i = i + 1",
                                "end", "end")
            holds = [row for row in found if first_word(row) == "holds"]
            self.assertEqual(holds, ["holds " + each for each in expected])

    def test_downwards(self):
        rows = ["helper f n", "needs n >= 0", "let i = n", "while i > 0", "let i = i - 1", "end", "claim i = 0", "end"]
        found = self.mend(*rows)
        self.assertEqual(found[3:8], ["while i > 0", "holds i >= 0", "holds 0 <= i", "falls i", "let i = i - 1"])
        self.assertIs(let_by(program_of(*found)), True)

    def test_at_most_six(self):
        rows = ["helper f n", "needs n >= 0", "while i < n", *[f"let {name} = 0" for name in "abcde"],
                "let i = i + 1", "end", "end"]
        self.assertEqual(self.put_in(*rows), ["holds i <= n", *[f"holds 0 <= {name}" for name in "abcde"],
                                              "falls -i + n"])
        # One that is there already isn't counted.
        self.assertEqual(self.put_in(*rows[:3], "holds 0 <= c", *rows[3:]),
                         ["holds i <= n", *[f"holds 0 <= {name}" for name in "abdei"], "falls -i + n"])
        self.assertEqual(self.put_in(*rows[:3], "holds 0 <= c", "holds i <= n", *rows[3:]),
                         [*[f"holds 0 <= {name}" for name in "abdei"], "holds a <= n", "falls -i + n"])

    def test_those_not_shown_are_counted_among_the_six(self):
        rows = ["helper f n", "needs n >= 0", "while i < n", *[f"let {name} = -1" for name in "abcde"],
                "let i = i + 1", "end", "end"]
        self.assertEqual(self.put_in(*rows), ["holds i <= n", "falls -i + n"])
        self.assertEqual(self.put_in(*rows[:3], *rows[6:]),
                         ["holds i <= n", "holds 0 <= i", "holds d <= n", "holds e <= n", "falls -i + n"])

    def test_the_same_twice(self):
        rows = ["helper f n", "while 0 < i", "let i = i - 1", "end", "end"]
        self.assertEqual(self.mend(*rows), rows[:2] + ["holds 0 <= i", "falls i"] + rows[2:])
        rows[1] = "while i < n"
        self.assertEqual(self.mend(*rows[:2], "holds 0 <= n", "holds i <= n", *rows[2:])[:5],
                         ["helper f n", "while i < n", "holds 0 <= n", "holds i <= n", "let i = i - 1"])

    def test_other_conditions_that_mean_the_same_are_no_hindrance(self):
        rows = ["helper f n", "needs n >= 0", "while i < n", "holds i >= 0", "holds n >= i", "let i = i + 1", "end",
                "end"]
        self.assertEqual(self.put_in(*rows), ["holds i <= n", "holds 0 <= i", "falls -i + n"])

    def test_names_and_things_rise(self):
        # Written are a number that is fetched, one that is left, one that a call sets; and a length.
        helper = ["helper one", "answers x", "gives x = 0", "end"]
        rows = ["helper f #a m", "needs m >= #a", "while i < m or i < #a or #c > 0", "row c = 0", "let q = 4 mod 2",
                "call p = one", "if #a > m", "let z = a at 0", "end", "end", "end"]
        self.assertEqual(self.put_in(*helper, *rows),
                         ["holds 0 <= p", "holds 0 <= q", "holds 0 <= z", "holds p <= #a", "holds p <= i",
                          "holds p <= m"])
        rows[2] = "holds 0 <= p"
        rows.insert(2, "while m > #c")
        self.assertEqual(self.put_in(*helper, *rows),
                         ["holds m >= #c", "holds 0 <= q", "holds 0 <= z", "holds p <= m", "holds q <= m",
                          "holds z <= m"])

    def test_twelve_holds(self):
        rows = ["helper f n", "needs n >= 0", "while i < n", "let j = 0", "let i = i + 1", "end", "end"]
        in_order = ["holds i <= n", "holds 0 <= i", "holds 0 <= j", "holds j <= n"]
        for count in range(6, 14):
            more = [f"holds n > -{number}" for number in range(1, count + 1)]
            found = self.put_in(*rows[:3], *more, *rows[3:])
            self.assertEqual(found, in_order[:max(0, 12 - count)] + ["falls -i + n"])

    def test_two_hundred_rows(self):
        rows = ["helper f n", "needs n >= 0", "while i < n", "let j = 0", "let i = i + 1", "end", "end"]
        in_order = ["holds i <= n", "holds 0 <= i", "holds 0 <= j", "holds j <= n", "falls -i + n"]
        for left in range(7):
            filled = rows[:2] + ["let x = 0"] * (200 - left - len(rows)) + rows[2:]
            self.assertEqual(len(filled), 200 - left)
            found = self.put_in(*filled)
            self.assertEqual(found, in_order[:left])

    def test_two_hundred_rows_in_all_helpers_together(self):
        rows = ["helper f n", "needs n >= 0", "while i < n", "let i = i + 1", "end", "end"]
        other = [row.replace("helper f", "helper g") for row in rows]
        filled = rows[:-1] + ["let x = 0"] * (196 - 2 * len(rows)) + rows[-1:] + other
        self.assertEqual(len(filled), 196)
        found = self.mend(*filled)
        self.assertEqual(found[3:6], ["holds i <= n", "holds 0 <= i", "falls -i + n"])
        self.assertEqual(found[-5:], ["while i < n", "holds i <= n", "let i = i + 1", "end", "end"])
        self.assertEqual(len(found), 200)


class TakenOutTest(MendedTest):
    def test_again_and_again(self):
        # That x is at most n isn't kept; then neither is that y is, and then neither is that z is.
        rows = ["helper f n", "needs n >= 0", "while i < n", "let z = y", "let y = x", "let x = x + 1",
                "let i = i + 1", "end", "end"]
        found = self.put_in(*rows[:3], "holds 0 <= i", "holds 0 <= x", "holds 0 <= y", "holds 0 <= z", *rows[3:])
        self.assertEqual(found, ["holds i <= n", "falls -i + n"])
        # With a bound of x they are all kept.
        found = self.put_in(*rows[:3], "holds 0 <= i", "holds 0 <= x and x <= i", "holds 0 <= y", "holds 0 <= z",
                            *rows[3:])
        self.assertEqual(found, ["holds i <= n", "holds 0 <= x", "holds x <= n", "holds y <= n", "holds z <= n",
                                 "falls -i + n"])

    def test_all_at_once(self):
        # With so many Sums ahead each of six candidates has nine more, and one for each candidate ahead of it. Those
        # that are too hard go at once, though with one less of them the others wouldn't be.
        loop = ["while i < n", *[f"let {name} = {name} + 1" for name in "abcde"], "let i = i + 1", "end", "end"]
        in_order = ["holds i <= n", *[f"holds 0 <= {name}" for name in "abcde"]]
        for count, left in ((60, 6), (65, 6), (66, None), (67, 5), (68, 4), (69, 3), (70, 2), (71, 1), (72, 0)):
            rows = ["helper f n", *["needs " + several("n >= 0", 8)] * 4, *claims_of("n >= 0", count - 32), *loop]
            # With 66 the falls makes the last candidate too hard, and so all is taken out at last.
            expected = [] if left is None else in_order[:left] + ["falls -i + n"]
            self.assertEqual(self.put_in(*rows), expected)

    def test_denied_at_first_and_denied_again(self):
        rows = ["helper f n", "let i = n", "while i < 5", "let i = i + 1", "end", "end"]
        self.assertEqual(self.put_in(*rows), ["falls -i + 5"])
        rows = ["helper f n", "while i < 5", "let i = i + n", "end", "end"]
        self.assertEqual(self.put_in(*rows), [])

    def test_on_one_way_alone(self):
        rows = ["helper f n", "while i < 5", "let i = i + 1", "if n > 3", "let x = n", "else", "let x = -n", "end",
                "end", "end"]
        self.assertEqual(self.put_in(*rows), ["holds i <= 5", "holds 0 <= i", "falls -i + 5"])
        rows[6] = "let x = 3 - n"
        self.assertEqual(self.put_in(*rows), ["holds i <= 5", "holds 0 <= i", "holds 0 <= x", "falls -i + 5"])

    def test_a_fact_behind_the_loop_stays_out_of_it(self):
        rows = ["helper f n", "claim n > 0", "while i < n", "let i = i + 1", "end", "claim n = 4", "end"]
        self.assertEqual(self.put_in(*rows), ["holds i <= n", "holds 0 <= i", "falls -i + n"])


class FallsTest(MendedTest):
    def falls(self, *rows):
        return [row for row in self.put_in(*rows) if first_word(row) == "falls"]

    def test_each_sign(self):
        for condition, step, expected in (
                ("i < n", "+ 1", "-i + n"), ("i <= n", "+ 1", "-i + n"), ("i > n", "- 1", "i - n"),
                ("i >= n", "- 1", "i - n"), ("n > i", "+ 1", "-i + n"), ("n >= i", "+ 2", "-i + n"),
                ("n < i", "- 1", "i - n"), ("n <= i", "- 3", "i - n"),
                ("2*i + 1 < 3*n + #a", "+ 1", "#a - 2*i + 3*n - 1"),
                ("i < 4 - i", "+ 1", "-2*i + 4")):
            rows = ["helper f n #a", "while " + condition, "let i = i " + step, "end", "end"]
            self.assertEqual(self.falls(*rows), ["falls " + expected], condition)
        for condition in ("i != n", "i = n", "not (i >= n)", "i < n and i < 5", "i < n or i < 5", "not (i != n)"):
            self.assertEqual(self.falls("helper f n", "while " + condition, "let i = i + 1", "end", "end"), [])

    def test_it_doesnt_fall(self):
        for step in ("let i = i", "let i = i - 1", "let i = n - 1", "let x = 0"):
            self.assertEqual(self.falls("helper f n", "while i < n", step, "end", "end"), [])
        self.assertEqual(self.falls("helper f n", "while i < n", "if x > 0", "let i = i + 1", "end", "end", "end"), [])

    def test_it_falls_by_what_is_put_in(self):
        rows = ["helper f n", "let x = 1", "while i < n", "holds x >= 1", "let i = i + x", "let x = x + 1", "end",
                "end"]
        self.assertEqual(self.falls(*rows), ["falls -i + n"])
        rows = ["helper f n", "while i < n", "let i = i + x + 1", "let x = x + i", "end", "end"]
        self.assertEqual(self.put_in(*rows), ["holds 0 <= i", "holds 0 <= x", "falls -i + n"])

    def test_one_that_is_there_stays_alone(self):
        for falls in ("falls n - i", "falls i", "falls 7"):
            rows = ["helper f n", "while i < n", falls, "let i = i + 1", "end", "end"]
            found = self.mend(*rows)
            self.assertEqual(len([row for row in found if first_word(row) == "falls"]), 1)

    def test_behind_the_holds(self):
        rows = ["helper f n", "while i < n", "holds n > -5", "let i = i + 1", "end", "end"]
        self.assertEqual(self.mend(*rows)[:5], rows[:3] + ["holds 0 <= i", "falls -i + n"])

    def test_terms(self):
        def loop(one, other):
            condition = f"{' + '.join(one)} < {' + '.join(other)}"
            return ["helper f #p #q a b", "while " + condition, "let c = c + 1", "end", "end"]

        eight = self.falls(*loop(["c", "d", "e", "g"], ["#p", "#q", "a", "b"]))
        self.assertEqual(eight, ["falls #p + #q + a + b - c - d - e - g"])
        self.assertEqual(self.falls(*loop(["c", "d", "e", "g", "h"], ["#p", "#q", "a", "b"])), [])
        # Like things fall out, so the difference has eight.
        self.assertEqual(self.falls(*loop(["c", "d", "e", "g", "a"], ["#p", "#q", "2*a", "b"])), eight)

    def test_figures(self):
        for one, other, expected in (
                ("999999999*i", "n", ["falls -999999999*i + n"]), ("i", "n + 999999999", ["falls -i + n + 999999999"]),
                ("500000000*i", "n - 500000000*i", []), ("499999999*i", "n - 500000000*i", ["falls -999999999*i + n"]),
                ("i - 500000000", "n + 500000000", []),
                ("i - 500000000", "n + 499999999", ["falls -i + n + 999999999"]),
                ("i + 500000000*n", "-500000000*n", []), ("i + 500000000", "n - 500000000", []),
                ("i + 999999999", "n + 999999999", ["falls -i + n"])):
            rows = ["helper f n", f"while {one} < {other}", "let i = i + 1", "end", "end"]
            self.assertEqual(self.falls(*rows), expected)

    def test_the_last_row(self):
        rows = ["helper f n", "while i < n", "holds i <= n or i = 0", "let i = i + 1", "end", "end"]
        for left, expected in ((2, ["holds 0 <= i", "falls -i + n"]), (1, ["falls -i + n"]), (0, [])):
            # The candidate that takes the row is taken out again, as n may be below nought: so a row is left.
            filled = rows[:1] + ["let x = 0"] * (200 - left - len(rows)) + rows[1:]
            self.assertEqual(self.put_in(*filled), expected)


class LoopsTest(MendedTest):
    def test_an_outer_one_ahead_of_those_in_it(self):
        rows = ["helper f n", "needs n >= 0", "while i < n", "let j = 0", "while j < i", "let j = j + 1", "end",
                "let i = i + 1", "end", "end"]
        self.assertEqual(self.mend(*rows),
                         ["helper f n", "needs n >= 0", "while i < n", "holds i <= n", "holds 0 <= i", "holds 0 <= j",
                          "falls -i + n", "let j = 0", "while j < i", "holds j <= i", "holds 0 <= j", "falls i - j",
                          "let j = j + 1", "end", "let i = i + 1", "end", "end"])
        # Nothing is known of j behind the inner one while the outer one is mended, but that it is at most 0.
        rows[3:6] = ["let j = i", "while j > 0", "let j = j - 1"]
        found = self.mend(*rows)
        self.assertEqual(found,
                         ["helper f n", "needs n >= 0", "while i < n", "holds i <= n", "holds 0 <= i", "holds j <= n",
                          "falls -i + n", "let j = i", "while j > 0", "holds j >= 0", "holds 0 <= j", "falls j",
                          "let j = j - 1", "end", "let i = i + 1", "end", "end"])
        # So there is something left for the next time.
        self.assertEqual(self.mend(*found), found[:6] + ["holds 0 <= j"] + found[6:])

    def test_one_behind_another(self):
        rows = ["helper f n", "needs n >= 0", "while i < n", "let i = i + 1", "end", "while j < i", "let j = j + 1",
                "end", "claim j = n", "end"]
        found = self.mend(*rows)
        self.assertEqual(found, rows[:3] + ["holds i <= n", "holds 0 <= i", "falls -i + n"] + rows[3:6]
                         + ["holds j <= i", "holds 0 <= j", "falls i - j"] + rows[6:])
        self.assertIs(let_by(program_of(*found)), True)

    def test_within_choices(self):
        loop = ["while i < n", "let i = i + 1", "end"]
        new = ["while i < n", "holds 0 <= i", "falls -i + n", "let i = i + 1", "end"]
        rows = ["helper f n", "if n > 5", *loop, "else", "let i = 0", *loop, "end", "end"]
        with_bound = new[:1] + ["holds i <= n"] + new[1:]
        self.assertEqual(self.mend(*rows), ["helper f n", "if n > 5", *with_bound, "else", "let i = 0", *new, "end",
                                            "end"])

    def test_deep(self):
        rows = ["helper f n"]
        for name in "abcde":
            rows += [f"let {name} = 0", f"while {name} < 3"]
        for name in "edcba":
            rows += [f"let {name} = {name} + 1", "end"]
        found = self.mend(*rows, "end")
        self.assertEqual(len([row for row in found if first_word(row) == "falls"]), 5)
        for name in "abcde":
            self.assertIn(f"holds {name} <= 3", found)
        self.assertEqual(outcome(program_of(*found), "f", [1], 10000),
                         outcome(program_of(*rows, "end"), "f", [1], 10000))

    def test_several_helpers(self):
        one = ["helper f n", "while i < n", "let i = i + 1", "end", "end"]
        other = ["helper g n", "call f n", "while i > n", "let i = i - 1", "end", "end"]
        self.assertEqual(self.mend(*one, *other),
                         ["helper f n", "while i < n", "holds 0 <= i", "falls -i + n", "let i = i + 1", "end", "end",
                          "helper g n", "call f n", "while i > n", "falls i - n", "let i = i - 1", "end", "end"])

    def test_what_is_mended_already(self):
        for rows in (SEARCH, SORT, GCD, COUNT):
            once = self.mend(*rows)
            self.assertIs(let_by(program_of(*once)), True)
            twice = self.mend(*once)
            self.assertIs(let_by(program_of(*twice)), True)
            first = rows_of(program_of(*rows))
            falls, falls_behind = [[row for row in each if first_word(row) == "falls"] for each in (first, twice)]
            self.assertEqual(falls, falls_behind)

    def test_without_loops(self):
        for rows in (["helper f", "end"], ["helper f n", "claim n = 3", "if n > 0", "end", "end"]):
            self.assertEqual(self.mend(*rows), rows)


class TooManyTest(MendedTest):
    def test_a_helper_whose_debts_are_too_many(self):
        loop = ["while i < 9", "let i = i + 1", "end"]
        rows = too_many_paths("g")
        rows[1:1] = loop
        self.assertEqual(self.mend(*rows), rows)
        mended_too = ["helper f", loop[0], "holds i <= 9", "holds 0 <= i", "falls -i + 9", *loop[1:], "end"]
        self.assertEqual(self.mend(*rows, "helper f", *loop, "end"), rows + mended_too)
        self.assertEqual(self.mend("helper f", *loop, "end", *rows), mended_too + rows)

    def test_with_candidates(self):
        # Each candidate owes twice, the falls too.
        rows = ["helper f n", "needs n >= 0", "while i < n", "let i = i + 1", "end", "end"]
        new = ["holds i <= n", "holds 0 <= i", "falls -i + n"]
        for count, expected in ((94, new), (95, new[:2]), (96, new[:2]), (97, new[2:]), (98, new[2:]), (99, []),
                                (100, []), (101, [])):
            filled = rows[:2] + ["claim 0 = 0"] * count + rows[2:]
            self.assertEqual(self.put_in(*filled), expected, count)

    def test_with_candidates_on_many_ways(self):
        choices = []
        for name in "abcd":
            choices += [f"if n > {len(choices)}", f"let {name} = 0", "end"]
        rows = ["helper f n", "while i < 5", *choices, "let i = i + 1", "end", "end"]
        # Six candidates and sixteen ways: 102 debts.
        self.assertEqual(self.put_in(*rows), ["falls -i + 5"])
        self.assertEqual(len(self.put_in(*rows[:2], *rows[5:])), 6)


class AtLastTest(MendedTest):
    """Rows that came later may make a debt of an earlier one too hard: then all is taken out."""

    outer = ["holds i <= n", "holds 0 <= i", "holds 0 <= j", "falls -i + n"]
    inner = ["holds j <= n", "holds 0 <= j", "falls -j + n"]

    def rows(self, count, outer=(), inner=()):
        """An outer loop with so many Sums claimed behind the inner one; each with such further rows."""
        return ["helper f n", "needs n >= 1", "while i < n", "holds n >= 1", *outer, "let j = 0", "while j < n", *inner,
                "let j = j + 1", "end", *claims_of("n >= 1", count), "let i = i + 1", "end", "end"]

    def test_both_loops(self):
        for count in (10, 63):
            self.assertEqual(self.mend(*self.rows(count)), self.rows(count, self.outer, self.inner))
        for count in (64, 65, 66):
            self.assertEqual(self.mend(*self.rows(count)), self.rows(count))
            # Each loop by itself could be mended.
            alone = self.rows(count, self.outer)
            self.assertTrue(all(word == "shown" for at, word in self.words(program_of(*alone))))
            self.assertEqual(self.mend(*[row for row in alone if not row.startswith("claim")]),
                             self.rows(0, self.outer, self.inner))
            words = self.words(program_of(*self.rows(count, self.outer, self.inner)))
            self.assertEqual({word for at, word in words}, {"shown", "open"})
        # With so many the outer one is mended less from the first, and what is put in there is shown at last.
        self.assertEqual(self.mend(*self.rows(70)), self.rows(70, self.outer[3:], self.inner))

    def test_all_helpers(self):
        counted = ["helper g n", "while k < 7", "let k = k + 1", "end", "end"]
        new = [*counted[:2], "holds k <= 7", "holds 0 <= k", "falls -k + 7", *counted[2:]]
        self.assertEqual(self.mend(*counted, *self.rows(63)), new + self.rows(63, self.outer, self.inner))
        self.assertEqual(self.mend(*counted, *self.rows(64)), counted + self.rows(64))
        self.assertEqual(self.mend(*self.rows(64), *counted), self.rows(64) + counted)
        self.assertEqual(self.mend(*self.rows(70), *counted), self.rows(70, self.outer[3:], self.inner) + new)


class RunsTest(MendedTest):
    def check_runs(self, program, runs):
        found = mended(program)
        stands = self.check_rows(program, found)
        seen = []
        for name, given, most in runs:
            first, now = outcome(program, name, given, most), outcome(found, name, given, most)
            if first[0] == "fault":
                first = ("fault", first[1], stands[first[2]])
                seen.append(first[1])
            else:
                seen.append("ends")
            self.assertEqual(now, first)
        return len(stands) < len(rows_of(found)), seen

    def test_drawn_programs(self):
        chance = random.Random(33)
        counts, changed = {}, 0
        for _ in range(160):
            drawn = chance.choice((DrawnSense, DrawnLoops))(chance)
            program = program_of(*drawn.rows)
            runs = []
            for _ in range(6):
                name = chance.choice(drawn.heads)[0]
                runs.append((name, drawn.given(name), chance.choice((15, 100, 400))))
            is_new, seen = self.check_runs(program, runs)
            changed += is_new
            for kind in seen:
                counts[kind] = counts.get(kind, 0) + 1
        self.assertGreater(changed, 80)
        self.assertEqual(len(counts), 12, counts)

    def test_by_hand(self):
        program = program_of(*[row for row in SORT if first_word(row) not in ("holds", "falls")])
        chance = random.Random(330)
        runs = [("sort", [[chance.randint(-5, 5) for _ in range(length)]], most) for length in range(8)
                for most in (1, 2, 30, 1000)]
        is_new, seen = self.check_runs(program, runs)
        self.assertIs(is_new, True)
        self.assertEqual(set(seen), {"long", "ends"})


class SecondTest(MendedTest):
    """The mended program is the one that a second mender makes, over rows of text alone."""

    def test_drawn_programs(self):
        chance = random.Random(32)
        new = 0
        for _ in range(70):
            rows = chance.choice((DrawnSense, DrawnLoops, DrawnLoops))(chance).rows
            found = self.mend(*rows)
            self.assertEqual(found, second_mended(rows))
            new += len(found) - len(rows)
        self.assertGreater(new, 200)

    def test_by_hand(self):
        for rows in (SEARCH, SORT, GCD, COUNT):
            bare = [row for row in rows if first_word(row) not in ("holds", "falls")]
            self.assertEqual(self.mend(*bare), second_mended(bare))
            self.assertGreater(len(self.mend(*bare)), len(bare))


class HandMadeTest(unittest.TestCase):
    def test_where_rows_are_is_told_by_the_text(self):
        body = [Let(70, "i", total(1, i=1))]
        loop = Repeat(7, compare("i", "<", "n"), [[70, compare(0, "<=", 1)]], None, body)
        program = Program([Helper(40, "f", ["n"], [], [], [], [loop])])
        before = program.told()
        found = mended(program)
        self.assertEqual(rows_of(found), ["helper f n", "while i < n", "holds 0 <= 1", "holds 0 <= i", "falls -i + n",
                                          "let i = i + 1", "end", "end"])
        self.assertEqual(found.told(), read(written(found)).told())
        self.assertEqual(program.told(), before)

    def test_nothing_is_shared_with_a_list_of_the_owners(self):
        falls = [2, total(i=-1, n=1)]
        loop = Repeat(1, compare("i", "<", "n"), [], falls, [Let(3, "i", total(1, i=1))])
        found = mended(Program([Helper(0, "f", ["n"], [], [], [], [loop])]))
        before = found.told()
        falls[1] = total(4)
        self.assertEqual(found.told(), before)

    def test_sums_in_any_order(self):
        text = "helper f n\nwhile 0 + i < n + 1 - 1\nholds 2 - 2 <= 3*i - 2*i\nlet i = 1 + i\nend\nend\n"
        self.assertEqual(rows_of(mended(read(text))), ["helper f n", "while i < n", "holds 0 <= i", "falls -i + n",
                                                       "let i = i + 1", "end", "end"])
        self.assertIsNone(fault_of(mended(read(text)), "f", [4]))


if __name__ == "__main__":
    unittest.main()
