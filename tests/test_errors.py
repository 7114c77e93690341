import unittest

from labelplace.errors import LabelError, NoCell, NoDeed, NoDrawing, NoName, NoPlan, NotTwo, TooMany, Twice

REFUSALS = [NoPlan, NotTwo, Twice, NoName, NoCell, TooMany, NoDrawing, NoDeed]


class Refusals(unittest.TestCase):
    def test_each_is_a_label_error_and_a_value_error(self):
        self.assertTrue(issubclass(LabelError, ValueError))
        for refusal in REFUSALS:
            self.assertTrue(issubclass(refusal, LabelError), refusal)

    def test_none_is_another_one(self):
        self.assertEqual(len(set(REFUSALS)), 8)
        for one in REFUSALS:
            for other in REFUSALS:
                self.assertEqual(issubclass(one, other), one == other, (one, other))

    def test_fields_have_what_was_told(self):
        for line in (0, 1, 46):
            self.assertEqual(NoPlan(line).line, line)
        for refusal in (NotTwo, Twice, NoName):
            self.assertEqual(refusal("ulm").name, "ulm")
        self.assertEqual(NoCell((3, 20)).cell, (3, 20))

    def test_fields_are_each_objects_own(self):
        one, other = NoName("ulm"), NoName("bonn")
        self.assertEqual((one.name, other.name), ("ulm", "bonn"))

    def test_raised_they_are_taken_as_any_refusal(self):
        made = [NoPlan(0), NotTwo("a"), Twice("a"), NoName("a"), NoCell((0, 0)), TooMany(), NoDrawing(), NoDeed()]
        for refusal in made:
            with self.assertRaises(LabelError) as caught:
                raise refusal
            self.assertIs(caught.exception, refusal)


if __name__ == "__main__":
    unittest.main()
