import random
import re
import unittest

from holdwright.errors import NoText
from holdwright.programs import Helper, Program, written
from holdwright.reading import read
from holdwright.sensing import sensible
from holdwright.steps import Call, Let, Repeat
from support import KEPT, DrawnSense, compare, program_of, text_of, total

# A helper to be called: a number and a row are given, two numbers answered. Its rows are 0 to 2.
CALLED = ("helper g n #r", "answers p q", "end")


class SensibleTest(unittest.TestCase):
    def none(self, *rows):
        program = program_of(*rows)
        told = program.told()
        self.assertIsNone(sensible(program), rows)
        self.assertEqual(program.told(), told)

    def wrong(self, at, why, *rows):
        program = program_of(*rows)
        told = program.told()
        found = sensible(program)
        self.assertEqual(found, (at, why), rows)
        self.assertIs(type(found), tuple)
        self.assertIs(type(found[0]), int)
        self.assertEqual(program.told(), told)
        self.assertEqual(sensible(program), found)


class GoodTest(SensibleTest):
    def test_little_ones(self):
        self.none("helper f", "end")
        self.none("helper f x #a y #b", "answers p q r", "end")
        self.none("helper f", "end", "helper g", "end", "helper h", "end")

    def test_needs_and_gives(self):
        self.none("helper f x #a", "answers y", "needs x < #a", "needs 0 <= x or not (x = #a)", "needs 1 < 2",
                  "gives y = x", "gives y + #a >= x", "gives 0 = 0", "end")

    def test_all_kinds_of_steps(self):
        self.none("helper f x #a", "answers y", "let y = x + z - #a + #c", "let z = y div x", "let y = y mod #a - 3",
                  "let z = a at x", "let z = c at z", "put a at y = z", "put c at #c - 1 = #a", "row c = x",
                  "claim x < y and #c = #a", "if x < z", "let z = 1", "else", "row d = #d + 1", "end",
                  "while z < #a", "holds z <= #a", "holds #d = 0", "falls #a - z", "let z = z + 1", "end", "end")

    def test_calls_of_helpers_ahead(self):
        self.none(*CALLED, "helper f x #a", "call s t = g 3, #a", "call t s = g #a, #b",
                  "call u v = g x + #a - s, #a", "end")
        self.none("helper f", "end", "helper g", "answers x", "call f", "end", "helper h", "call f", "call y = g",
                  "call f", "end")

    def test_calls_within_blocks(self):
        self.none(*CALLED, "helper f", "while x < 3", "if x = 2", "call x y = g x, #a", "else",
                  "call y x = g -x, #b", "end", "end", "end")

    def test_one_row_for_two_params(self):
        self.none("helper g #a #b", "end", "helper f #c", "call g #c, #c", "end")

    def test_a_helpers_name_is_no_use(self):
        self.none("helper f f", "end")
        self.none("helper f #f", "let x = f at 0", "end", "helper g f", "let x = f", "end")
        self.none("helper f", "answers f", "let f = 3", "end", "helper g", "call f = f", "let x = #g", "end")
        self.none("helper f", "end", "helper g", "row f = 3", "call f", "let g = 2", "end")

    def test_other_helpers_uses_are_no_matter(self):
        self.none("helper f x #a", "let y = #b", "end", "helper g a #x", "let b = #y", "end")

    def test_what_stands_in_a_param_may_be_put_otherwise(self):
        self.none("helper f #a x", "put a at 0 = x", "put a at #a - 1 = #a", "end")

    def test_answers_may_be_set_again_and_used_ahead(self):
        self.none("helper f", "answers y", "let x = y", "let y = y + 1", "let y = 3 div 2", "end")

    def test_names_need_no_let_ahead(self):
        self.none("helper f", "let x = y + z + #a", "claim q = 0", "end")

    def test_what_falls_out_of_a_sum_is_no_use(self):
        self.none("helper f x #a", "let y = a - a + #x - #x + 0*#y", "end")
        self.none("helper f x", "needs y - y = 0", "gives 2*z - z - z <= x", "end")
        self.none("helper f", "row x = x - x", "let y = #y - #y + 2", "put b at b - b = 0", "claim 0*#y = 0", "end")
        self.none(*CALLED, "helper f", "call x y = g #x - #x, #b + b - b", "end")

    def test_programs_made_by_hand(self):
        keeps = [[2, compare("#b", "<=", 3)]]
        steps = [Repeat(1, compare("x", "<", 3), keeps, [3, total(3, x=-1)], [Let(4, "x", total(1, x=1))])]
        self.assertIsNone(sensible(Program([Helper(0, "f", ["y"], [], [], [], steps)])))
        steps = [Repeat(1, compare("x", "<", 3), [], [3, total(3, **{"#x": -1})], [])]
        self.assertEqual(sensible(Program([Helper(0, "f", ["y"], [], [], [], steps)])), (3, "kind"))
        call = Call(7, [], "f", [total(0, **{"#a": 1})])
        self.assertIsNone(sensible(Program([Helper(0, "f", ["#a"], [], [], [], []),
                                            Helper(6, "h", [], [], [], [], [call])])))
        self.assertIsNone(sensible(Program([])))

    def test_names_of_arguments(self):
        self.assertIsNone(sensible(program=program_of("helper f", "end")))


class TwiceTest(SensibleTest):
    def test_helpers_names(self):
        self.wrong(2, "twice", "helper f", "end", "helper f", "end")
        self.wrong(4, "twice", "helper f", "end", "helper g", "end", "helper f x", "end")
        self.wrong(4, "twice", "helper f", "end", "helper g", "end", "helper g", "end")

    def test_params(self):
        self.wrong(0, "twice", "helper f x x", "end")
        self.wrong(0, "twice", "helper f #a x #a", "end")
        self.wrong(0, "twice", "helper f x #x", "end")
        self.wrong(0, "twice", "helper f #x y x", "end")
        self.wrong(2, "twice", "helper f x", "end", "helper g x y x", "end")

    def test_answers(self):
        self.wrong(1, "twice", "helper f", "answers x x", "end")
        self.wrong(1, "twice", "helper f", "answers x y x", "end")
        self.wrong(1, "twice", "helper f x", "answers x", "end")
        self.wrong(1, "twice", "helper f y #a", "answers x a", "end")
        self.wrong(3, "twice", "helper f", "end", "helper g y", "answers x y", "end")

    def test_calls(self):
        self.wrong(4, "twice", *CALLED, "helper f", "call x x = g 0, #a", "end")
        self.wrong(5, "twice", *CALLED, "helper f", "if x = 0", "call y y = g 0, #a", "end", "end")


class FixedTest(SensibleTest):
    def test_each_step_that_writes_a_number(self):
        for row in ("let x = 3", "let x = 3 div 2", "let x = 3 mod 2", "let x = a at 0", "let x = x"):
            self.wrong(1, "fixed", "helper f y x #a", row, "end")
            self.wrong(2, "fixed", "helper f x #a", "if x = 0", row, "end", "end")
            self.none("helper f y #a", row, "end")

    def test_calls(self):
        self.wrong(4, "fixed", *CALLED, "helper f x", "call x y = g 0, #a", "end")
        self.wrong(4, "fixed", *CALLED, "helper f x", "call y x = g 0, #a", "end")

    def test_rows_made_anew(self):
        self.wrong(1, "fixed", "helper f #a", "row a = 3", "end")
        self.wrong(2, "fixed", "helper f x #a", "while x < 0", "row a = 3", "end", "end")
        self.none("helper f #a", "row b = 3", "end")

    def test_the_name_of_a_param_of_the_other_kind(self):
        self.wrong(1, "fixed", "helper f #a", "let a = 3", "end")
        self.wrong(1, "fixed", "helper f x", "row x = 3", "end")

    def test_another_helpers_params_are_no_matter(self):
        self.none("helper g x #a", "end", "helper f", "let x = 1", "row a = 1", "end")


class KindTest(SensibleTest):
    def test_used_as_a_row_ahead(self):
        for ahead in ("let y = #x", "let y = x at 0", "put x at 0 = 0", "row x = 2", "claim #x = 0", "let y = 3 div #x",
                      "let y = #x mod 2", "let y = b at #x", "put b at #x = 1", "put b at 0 = #x", "row b = #x"):
            for here in ("let x = 1", "let z = x", "let z = 1 div x", "let z = x mod 2", "let z = b at x",
                         "put b at x = 0", "put b at 0 = x", "row b = x", "claim x = 0", "claim not (0 < 1 or 2 < x)"):
                self.wrong(2, "kind", "helper f", ahead, here, "end")
                self.wrong(2, "kind", "helper f", here, ahead, "end")

    def test_in_this_very_row(self):
        for row in ("let x = #x", "let x = x at 0", "let y = x at x", "put x at x = 0", "put x at 0 = x", "row x = x",
                    "claim x = #x", "let y = x div #x", "let x = #x mod 2", "claim x = 0 or #x = 1"):
            self.wrong(1, "kind", "helper f", row, "end")
            self.wrong(2, "kind", "helper f", "let z = 1", row, "end")

    def test_params_and_answers(self):
        self.wrong(1, "kind", "helper f x", "let y = #x", "end")
        self.wrong(1, "kind", "helper f #a", "let y = a", "end")
        self.wrong(1, "kind", "helper f x", "put x at 0 = 1", "end")
        self.wrong(2, "kind", "helper f", "answers y", "row y = 3", "end")
        self.wrong(2, "kind", "helper f", "answers y", "let x = #y", "end")

    def test_needs_and_gives(self):
        self.wrong(1, "kind", "helper f x", "needs #x = 0", "end")
        self.wrong(2, "kind", "helper f #a", "needs #a = 0", "needs a = 0", "end")
        self.wrong(2, "kind", "helper f", "answers y", "gives #y = 0", "end")
        self.wrong(1, "kind", "helper f x #a", "gives a = x", "end")

    def test_conditions_of_blocks(self):
        self.wrong(2, "kind", "helper f", "let x = 1", "if #x = 1", "end", "end")
        self.wrong(2, "kind", "helper f", "let x = 1", "while #x = 1", "end", "end")
        self.wrong(2, "kind", "helper f", "if x = 1", "row x = 1", "end", "end")
        self.wrong(4, "kind", "helper f", "if y = 1", "row x = 1", "else", "let x = 1", "end", "end")
        self.wrong(4, "kind", "helper f", "if y = 1", "row x = 1", "end", "let x = 1", "end")

    def test_holds_and_falls_are_rows_like_others(self):
        self.wrong(2, "kind", "helper f x", "while x = 1", "holds #x = 1", "end", "end")
        self.wrong(3, "kind", "helper f", "while x = 1", "holds x = 1", "holds #x = 1", "end", "end")
        self.wrong(2, "kind", "helper f", "while x = 1", "falls #x", "end", "end")
        self.wrong(3, "kind", "helper f", "while 0 = 1", "holds #x = 1", "falls x", "end", "end")
        self.wrong(3, "kind", "helper f", "while 0 = 1", "holds #x = 1", "let x = 1", "end", "end")
        self.wrong(3, "kind", "helper f", "while 0 = 1", "falls x", "row x = 1", "end", "end")
        self.wrong(4, "kind", "helper f", "while 0 = 1", "falls x", "end", "let y = #x", "end")
        self.wrong(4, "kind", "helper f", "let y = x", "while 0 = 1", "holds 1 = 1", "holds #x = 0", "falls #x",
                   "let z = #x", "end", "end")

    def test_calls(self):
        self.wrong(4, "kind", *CALLED, "helper f", "call x y = g #x, #a", "end")
        self.wrong(4, "kind", *CALLED, "helper f", "call x y = g 0, #x", "end")
        self.wrong(4, "kind", *CALLED, "helper f a", "call x y = g 0, #a", "end")
        self.wrong(5, "kind", *CALLED, "helper f", "call x y = g 0, #a", "row x = 0", "end")
        self.wrong(5, "kind", *CALLED, "helper f", "call x y = g z, #a", "let a = 0", "end")
        self.wrong(4, "kind", *CALLED, "helper f", "call x y = g a, #a", "end")


class UnknownTest(SensibleTest):
    def test_no_such_helper(self):
        self.wrong(1, "unknown", "helper f", "call g", "end")
        self.wrong(2, "unknown", "helper f x", "if x = 0", "call y = g x", "end", "end")

    def test_not_wholly_ahead(self):
        self.wrong(1, "unknown", "helper f", "call f", "end")
        self.wrong(1, "unknown", "helper f", "call g", "end", "helper g", "end")
        self.wrong(3, "unknown", "helper f", "end", "helper g", "call g", "end")
        self.none("helper g", "end", "helper f", "call g", "end")


class GivenTest(SensibleTest):
    def test_more_or_fewer(self):
        for given in ("", " 0", " 0, #a, 0", " #a", " 0, #a, #a", " 0, 0, #a"):
            self.wrong(4, "given", *CALLED, "helper f", f"call x y = g{given}", "end")
        self.wrong(3, "given", "helper g", "end", "helper f", "call g 0", "end")

    def test_names(self):
        for names in ("", "x = ", "x y z = "):
            self.wrong(4, "given", *CALLED, "helper f", f"call {names}g 0, #a", "end")
        self.wrong(3, "given", "helper g", "end", "helper f", "call x = g", "end")

    def test_for_a_row_not_one_alone(self):
        for given in ("0", "x", "a", "#a + 1", "#a - 1", "2*#a", "-#a", "#a + #b", "#a - x", "3", "#a - #a"):
            self.wrong(4, "given", *CALLED, "helper f", f"call p q = g 0, {given}", "end")
        for given in ("#a", "#a + 0", "2*#a - #a", "1*#a"):
            self.none(*CALLED, "helper f", f"call p q = g 0, {given}", "end")

    def test_for_a_number_any_sum(self):
        for given in ("0", "x", "#a", "#a + 1", "2*#a + x", "#b - x"):
            self.none(*CALLED, "helper f", f"call p q = g {given}, #a", "end")


class StrangerTest(SensibleTest):
    def test_needs(self):
        self.wrong(1, "stranger", "helper f x", "needs y = 0", "end")
        self.wrong(1, "stranger", "helper f x", "needs x = #a", "end")
        self.wrong(2, "stranger", "helper f x", "needs x = 0", "needs x = 0 or (x < 3 and z < x)", "end")
        self.wrong(2, "stranger", "helper f x", "answers y", "needs y = x", "end")

    def test_gives(self):
        self.wrong(1, "stranger", "helper f x", "gives y = 0", "end")
        self.wrong(2, "stranger", "helper f x", "answers y", "gives z = y", "end")
        self.wrong(3, "stranger", "helper f x", "answers y", "gives y = x", "gives y = #a", "end")
        self.wrong(1, "stranger", "helper f x", "gives y = 0", "let y = 3", "end")

    def test_needs_and_gives_alone(self):
        self.none("helper f x", "claim y = #a", "while z < y", "holds q = 0", "falls p", "end", "end")


class OrderTest(SensibleTest):
    def test_several_in_a_row(self):
        self.wrong(1, "twice", "helper f #a", "answers a", "end")
        self.wrong(4, "twice", *CALLED, "helper f x", "call x x = h #x", "end")
        self.wrong(4, "fixed", *CALLED, "helper f x", "call x y = h #x", "end")
        self.wrong(4, "kind", *CALLED, "helper f x", "call z y = h #x", "end")
        self.wrong(4, "unknown", *CALLED, "helper f x", "call z y = h x", "end")
        self.wrong(4, "given", *CALLED, "helper f x", "call z y = g x", "end")
        self.wrong(4, "twice", *CALLED, "helper f x", "call y y = h", "end")
        self.wrong(4, "twice", *CALLED, "helper f x", "call y y = g", "end")
        self.wrong(4, "fixed", *CALLED, "helper f x", "call x = g", "end")
        self.wrong(4, "kind", *CALLED, "helper f x", "call y = g #y", "end")
        self.wrong(1, "fixed", "helper f x", "let x = #x", "end")
        self.wrong(1, "fixed", "helper f #a", "row a = a", "end")
        self.wrong(1, "kind", "helper f x", "needs #x = y", "end")
        self.wrong(1, "kind", "helper f x", "gives y = #y", "end")

    def test_several_rows(self):
        self.wrong(0, "twice", "helper f x x", "needs y = 0", "let x = 3", "end")
        self.wrong(1, "stranger", "helper f x", "needs y = 0", "let x = 3", "end")
        self.wrong(2, "stranger", "helper f x", "answers y", "gives z = 0", "let x = 3", "end", "helper f", "end")
        self.wrong(1, "unknown", "helper f x", "call g", "let x = 3", "end", "helper f", "end")
        self.wrong(2, "fixed", "helper f x", "while x < 3", "let x = 3", "call g", "end", "end")
        self.wrong(2, "kind", "helper f x", "while x < 3", "falls #x", "let x = 3", "end", "end")
        self.wrong(3, "fixed", "helper f x", "if x < 3", "else", "let x = 3", "end", "call g", "end")
        self.wrong(4, "twice", "helper f x", "end", "helper g", "end", "helper g", "call h", "end", "helper f", "end")

    def test_a_use_ahead_isnt_wrong_itself(self):
        self.wrong(5, "kind", "helper f", "if y = 0", "let x = 1", "end", "claim y = 1", "row x = 2", "end")


def things_in(words):
    return [word for word in re.findall(r"#?[a-z]+", " ".join(words)) if word not in KEPT]


def uses_in(words):
    """The things that a row as it is written uses, a row's name with `#` ahead."""
    if words[0] == "helper":
        return words[2:]
    if words[0] in ("put", "row"):
        return ["#" + words[1]] + things_in(words[2:])
    if words[0] == "let" and "at" in words:
        return [words[1], "#" + words[3]] + things_in(words[4:])
    if words[0] == "call":
        rest = words[words.index("=") + 2:] if "=" in words else words[2:]
        return call_names(words) + things_in(rest)
    return things_in(words[1:])


def call_names(words):
    return words[1:words.index("=")] if "=" in words else []


def first_wrong(rows):
    """What `sensible` is to tell of written rows, found a second way: by the words alone."""
    heads = {}
    head, used = None, set()
    for at, row in enumerate(rows):
        words = row.split(" ")
        if words[0] == "helper":
            if head is not None:
                heads[head[0]] = head
            names = [word.lstrip("#") for word in words[2:]]
            if words[1] in heads or len(set(names)) < len(names):
                return (at, "twice")
            head, used = (words[1], words[2:], []), set()
        params = [word.lstrip("#") for word in head[1]]
        names = call_names(words) if words[0] == "call" else []
        if words[0] == "answers":
            head = (head[0], head[1], words[1:])
            names = params + words[1:]
        if len(set(names)) < len(names):
            return (at, "twice")
        if words[0] in ("let", "row") and words[1] in params or words[0] == "call" and set(names) & set(params):
            return (at, "fixed")
        used |= set(uses_in(words))
        if any("#" + thing in used for thing in used):
            return (at, "kind")
        if words[0] == "call":
            name = words[words.index("=") + 1] if "=" in words else words[1]
            if name not in heads:
                return (at, "unknown")
            behind = row[len("call "):].split(" = ")[-1][len(name) + 1:]
            if not fits(heads[name], names, behind.split(", ") if behind else []):
                return (at, "given")
        known = {"needs": head[1], "gives": head[1] + head[2]}
        if words[0] in known and not set(uses_in(words)) <= set(known[words[0]]):
            return (at, "stranger")
    return None


def fits(head, names, given):
    if len(head[1]) != len(given) or len(head[2]) != len(names):
        return False
    return all(re.fullmatch("#[a-z]+", total) for param, total in zip(head[1], given) if param[0] == "#")


class DrawnTest(SensibleTest):
    def changed(self, chance, rows):
        """The rows with one word changed, or a row more."""
        rows = list(rows)
        words = ["x", "y", "n", "a", "c", "f", "g", "#a", "#c", "#x", "#n", "0", "x - x", "#n - #n", "a - a"]
        calls = [place for place, row in enumerate(rows) if row.startswith("call")]
        at = chance.choice(calls) if calls and chance.random() < 0.4 else chance.randrange(len(rows))
        parts = re.split(r"(#?[a-z]+)", rows[at])
        places = [place for place, part in enumerate(parts) if place % 2 and part not in KEPT]
        if chance.random() < 0.15:
            rows.insert(at, rows[chance.randrange(len(rows))])
        elif places:
            parts[chance.choice(places)] = chance.choice(words)
            rows[at] = "".join(parts)
        return rows

    def test_drawn_ones_make_sense(self):
        chance = random.Random(17)
        for _ in range(150):
            rows = DrawnSense(chance).rows
            self.assertIsNone(first_wrong(rows), rows)
            self.none(*rows)

    def test_changed_ones(self):
        chance = random.Random(170)
        seen = {}
        for _ in range(4000):
            rows = self.changed(chance, DrawnSense(chance).rows)
            try:
                program = read(text_of(*rows))
            except NoText:
                continue
            expected = first_wrong(written(program).split("\n")[:-1])
            self.assertEqual(sensible(program), expected, rows)
            seen[expected and expected[1]] = seen.get(expected and expected[1], 0) + 1
        for why in (None, "twice", "fixed", "kind", "unknown", "given", "stranger"):
            self.assertGreater(seen.get(why, 0), 20, seen)


if __name__ == "__main__":
    unittest.main()
