import unittest

from holdwright.errors import Fault, NoRun, NoSense, NoText, TooHard, TooMany, WritError

REFUSALS = (TooMany, NoText, NoSense, NoRun, Fault, TooHard)


class ErrorTest(unittest.TestCase):
    def test_any_refusal_is_a_value_error(self):
        self.assertTrue(issubclass(WritError, ValueError))

    def test_each_stands_under_writ_error(self):
        for refusal in REFUSALS:
            self.assertTrue(issubclass(refusal, WritError), refusal)
            self.assertIsNot(refusal, WritError)

    def test_none_stands_under_another(self):
        for one in REFUSALS:
            for other in REFUSALS:
                if one is not other:
                    self.assertFalse(issubclass(one, other), (one, other))

    def test_those_made_of_a_text(self):
        for refusal in (WritError, TooMany, NoRun, TooHard):
            error = refusal("so it is")
            self.assertEqual(str(error), "so it is")

    def test_no_text(self):
        error = NoText(7)
        self.assertEqual(error.at, 7)
        self.assertFalse(hasattr(error, "kind"))
        self.assertFalse(hasattr(error, "why"))
        self.assertEqual(NoText(0).at, 0)

    def test_no_sense(self):
        error = NoSense(4, "twice")
        self.assertEqual((error.at, error.why), (4, "twice"))
        self.assertFalse(hasattr(error, "kind"))

    def test_fault(self):
        error = Fault("nought", 12)
        self.assertEqual((error.kind, error.at), ("nought", 12))
        self.assertFalse(hasattr(error, "why"))

    def test_names_of_arguments(self):
        self.assertEqual(NoText(at=3).at, 3)
        self.assertEqual(NoSense(at=3, why="kind").why, "kind")
        self.assertEqual(Fault(kind="first", at=3).kind, "first")

    def test_fields_are_the_objects_own(self):
        one = Fault("first", 1)
        other = Fault("again", 2)
        self.assertEqual((one.kind, one.at, other.kind, other.at), ("first", 1, "again", 2))

    def test_taken_as_writ_error(self):
        for error in (TooMany("a"), NoText(1), NoSense(1, "kind"), NoRun("a"), Fault("long", 1), TooHard("a")):
            with self.assertRaises(WritError) as taken:
                raise error
            self.assertIs(taken.exception, error)
            self.assertNotEqual(str(error), "")


if __name__ == "__main__":
    unittest.main()
