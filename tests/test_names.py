import random
import string
import unittest

from holdwright.reading import is_name
from support import KEPT


class NameTest(unittest.TestCase):
    def check(self, word, truth):
        self.assertIs(is_name(word), truth, repr(word))

    def test_ordinary(self):
        for word in ("x", "a", "z", "count", "abcdefgh", "zzzzzzzz", "mid"):
            self.check(word, True)

    def test_lengths(self):
        for length in range(11):
            self.check("abcdefghij"[:length], 1 <= length <= 8)
            self.check("q" * length, 1 <= length <= 8)

    def test_each_letter(self):
        for letter in string.ascii_lowercase:
            self.check(letter, True)
            self.check("x" + letter + "x", True)

    def test_kept_words(self):
        self.assertEqual(len(set(KEPT)), 21)
        for word in KEPT:
            self.check(word, False)

    def test_beside_the_kept_words(self):
        for word in KEPT:
            for other in (word + "x", "x" + word, word[:-1], word[1:], word + word):
                self.check(other, 1 <= len(other) <= 8 and other not in KEPT)
            self.check(word.upper(), False)
            self.check(word[0].upper() + word[1:], False)

    def test_words_of_other_parts_are_names(self):
        for word in ("to", "then", "do", "is", "for", "true", "none", "sum", "length", "compare"):
            self.check(word, True)

    def test_each_other_sign(self):
        others = [chr(code) for code in range(32, 127) if chr(code) not in string.ascii_lowercase] + ["\n"]
        self.assertEqual(len(others), 70)
        for sign in others:
            for word in (sign, sign + "x", "x" + sign, "x" + sign + "y", "abcdefg" + sign):
                self.check(word, False)

    def test_lengths_of_rows_are_no_names(self):
        for word in ("#", "#a", "a#", "##a"):
            self.check(word, False)

    def test_signs_changed_left_out_and_put_in(self):
        chance = random.Random(5)
        signs = string.ascii_lowercase * 2 + "#_09AZ -*(\n"
        for _ in range(4000):
            word = chance.choice(KEPT + ["abcdefgh", "abcdefg", "x", "xy"])
            place = chance.randint(0, len(word))
            changed = chance.choice((word[:place] + chance.choice(signs) + word[place + 1:],
                                     word[:place] + word[place + 1:],
                                     word[:place] + chance.choice(signs) + word[place:]))
            truth = 0 < len(changed) < 9 and set(changed) <= set(string.ascii_lowercase) and changed not in KEPT
            self.check(changed, truth)


if __name__ == "__main__":
    unittest.main()
