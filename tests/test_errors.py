import copy
import unittest

from sidings.errors import BadMoves, BadText, BadTrain, BadYard, Stuck, YardError


class TheClasses(unittest.TestCase):

    def test_yard_error_is_straight_under_value_error(self):
        self.assertEqual(YardError.__bases__, (ValueError,))

    def test_each_refusal_is_straight_under_yard_error(self):
        for refusal in (BadTrain, BadYard, BadMoves, Stuck, BadText):
            self.assertEqual(refusal.__bases__, (YardError,), refusal)

    def test_the_names(self):
        names = [each.__name__ for each in (YardError, BadTrain, BadYard, BadMoves, Stuck, BadText)]
        self.assertEqual(names, ["YardError", "BadTrain", "BadYard", "BadMoves", "Stuck", "BadText"])

    def test_each_is_a_class_of_its_own(self):
        self.assertEqual(len({BadTrain, BadYard, BadMoves, Stuck, BadText}), 5)

    def test_the_plain_ones_can_be_made_with_words(self):
        for refusal in (YardError, BadTrain, BadYard, BadMoves, BadText):
            self.assertEqual(str(refusal("words")), "words")


class TheStuckPlace(unittest.TestCase):

    def test_each_object_has_its_own_place(self):
        first, second = Stuck(0), Stuck(7)
        self.assertEqual((first.at, second.at), (0, 7))

    def test_the_place_is_set_when_it_is_made(self):
        self.assertFalse(hasattr(Stuck, "at"))
        self.assertEqual(vars(Stuck(3)), {"at": 3})

    def test_a_copy_keeps_the_place(self):
        self.assertEqual(copy.copy(Stuck(4)).at, 4)


if __name__ == "__main__":
    unittest.main()
