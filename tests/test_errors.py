import unittest

from indexwise import errors

NAMES = ["NoProgram", "Twice", "NoBind", "NoName", "Unlike", "Parts", "TooGreat", "TooLong", "NoValue", "NoWords",
         "NoLine"]
ONE = (0, (("n", 1),))
OTHER = (3, ())


def made(name, place):
    if name == "Parts":
        return errors.Parts(place, ONE, OTHER, {"n": 4})
    return getattr(errors, name)(place)


class ClassesTest(unittest.TestCase):

    def test_the_first_class_stands_under_value_error(self):
        self.assertEqual(errors.IndexwiseError.__bases__, (ValueError,))

    def test_each_class_stands_straight_under_the_first(self):
        for name in NAMES:
            self.assertEqual(getattr(errors, name).__bases__, (errors.IndexwiseError,), name)

    def test_none_stands_under_another_one(self):
        for name in NAMES:
            others = [getattr(errors, other) for other in NAMES if other != name]
            self.assertFalse(issubclass(getattr(errors, name), tuple(others)), name)

    def test_there_are_eleven_besides_the_first(self):
        found = [name for name in dir(errors) if isinstance(getattr(errors, name), type)]
        self.assertEqual(sorted(found), sorted(NAMES + ["IndexwiseError"]))


class PlaceTest(unittest.TestCase):

    def test_the_place_is_as_it_was_handed_in(self):
        for name in NAMES + ["IndexwiseError"]:
            self.assertEqual(made(name, (2, 5)).place, (2, 5), name)
            self.assertEqual(made(name, (0, 0)).place, (0, 0), name)
            self.assertIsNone(made(name, None).place, name)

    def test_the_place_is_none_where_nothing_is_handed_in(self):
        for name in NAMES + ["IndexwiseError"]:
            if name != "Parts":
                self.assertIsNone(getattr(errors, name)().place, name)

    def test_the_place_may_be_named(self):
        self.assertEqual(errors.IndexwiseError(place=(1, 2)).place, (1, 2))
        self.assertEqual(errors.NoName(place=(1, 2)).place, (1, 2))

    def test_they_are_raised_and_taken(self):
        for name in NAMES:
            with self.assertRaises(errors.IndexwiseError) as taken:
                raise made(name, (1, 3))
            self.assertEqual(taken.exception.place, (1, 3))


class PartsTest(unittest.TestCase):

    def test_parts_bears_all_four(self):
        error = errors.Parts((1, 2), ONE, OTHER, {"n": 4})
        self.assertEqual((error.place, error.one, error.other), ((1, 2), ONE, OTHER))
        self.assertEqual(error.numbers, {"n": 4})

    def test_parts_takes_its_values_by_name(self):
        error = errors.Parts(place=(1, 2), one=ONE, other=OTHER, numbers={})
        self.assertEqual((error.place, error.one, error.other, error.numbers), ((1, 2), ONE, OTHER, {}))

    def test_the_numbers_are_its_own(self):
        numbers = {"n": 4}
        first = errors.Parts((1, 2), ONE, OTHER, numbers)
        second = errors.Parts((1, 2), ONE, OTHER, numbers)
        numbers["n"] = 5
        first.numbers["m"] = 6
        self.assertEqual(first.numbers, {"n": 4, "m": 6})
        self.assertEqual(second.numbers, {"n": 4})
        self.assertEqual(numbers, {"n": 5})


if __name__ == "__main__":
    unittest.main()
