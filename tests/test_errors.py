import copy
import inspect
import pickle
import unittest

from manyleaf import errors

WITHOUT_FIELDS = ["BadPanel", "NoChoice", "BadCond", "BadEdit", "NoRow"]
OF_EDITS = ["NoPart", "Doubled", "Lost", "Ring", "NoHolder", "WrongKind", "Far", "TooLong"]
FIELDS = {
    "BadPage": ("line", "choice"),
    "Unlike": ("part", "one", "other"),
    "NoEdit": ("number",),
    "NotLive": ("number",),
    "IsLive": ("number",),
    "StandsOn": ("number", "choice"),
    "NoEditor": ("editor",),
    "EditError": ("part", "choice"),
}
FIELDS.update({name: ("part", "choice") for name in OF_EDITS})
VALUES = ("first", 7, 9)


def class_of(name):
    return getattr(errors, name)


def base_of(name):
    return errors.EditError if name in OF_EDITS else errors.LeafError


class Made(unittest.TestCase):
    def test_there_are_twenty_one_classes_beneath_leaf_error_and_no_other_ones(self):
        there = [name for name, thing in vars(errors).items() if inspect.isclass(thing)]
        self.assertEqual(sorted(there), sorted(["LeafError"] + WITHOUT_FIELDS + list(FIELDS)))
        self.assertEqual(len(there), 22)

    def test_a_class_without_fields_is_made_of_a_text_or_of_nothing(self):
        for name in ["LeafError"] + WITHOUT_FIELDS:
            with self.subTest(name):
                self.assertIs(type(class_of(name)()), class_of(name))
                self.assertIs(type(class_of(name)("why")), class_of(name))
                self.assertIs(type(class_of(name)("")), class_of(name))
                self.assertEqual(vars(class_of(name)("why")), {})

    def test_the_fields_are_read_back_in_their_order(self):
        for name, fields in FIELDS.items():
            with self.subTest(name):
                made = class_of(name)(*VALUES[:len(fields)])
                self.assertEqual(tuple(getattr(made, field) for field in fields), VALUES[:len(fields)])
                self.assertEqual(tuple(vars(made)), fields)

    def test_the_arguments_bear_the_names_of_the_fields(self):
        for name, fields in FIELDS.items():
            with self.subTest(name):
                made = class_of(name)(**dict(zip(fields, VALUES)))
                self.assertEqual(vars(made), dict(zip(fields, VALUES)))

    def test_the_fields_are_the_very_things_that_were_handed_in(self):
        for thing in (None, 0, False, True, "", -1, "x", (1, 2), [], {}, 1.5):
            for name, fields in FIELDS.items():
                with self.subTest(name, thing=thing):
                    made = class_of(name)(*[thing] * len(fields))
                    for field in fields:
                        self.assertIs(getattr(made, field), thing)

    def test_the_choice_of_an_edit_error_may_be_left_out(self):
        for name in ["EditError"] + OF_EDITS:
            with self.subTest(name):
                made = class_of(name)("part.1")
                self.assertEqual(made.part, "part.1")
                self.assertIsNone(made.choice)
                self.assertEqual(class_of(name)("part.1", 0).choice, 0)
                self.assertIsNone(class_of(name)("part.1", None).choice)

    def test_no_other_field_may_be_left_out_and_there_are_no_more(self):
        for name, fields in FIELDS.items():
            must = 1 if base_of(name) is errors.EditError or name == "EditError" else len(fields)
            with self.subTest(name):
                with self.assertRaises(TypeError):
                    class_of(name)(*VALUES[:must - 1])
                with self.assertRaises(TypeError):
                    class_of(name)(*(VALUES + (1,))[:len(fields) + 1])

    def test_two_errors_share_nothing(self):
        one, other = errors.NoPart("a", 1), errors.NoPart("b", 2)
        one.choice = 5
        self.assertEqual((other.part, other.choice), ("b", 2))

    def test_a_copy_has_the_same_fields(self):
        for name, fields in FIELDS.items():
            made = class_of(name)(*VALUES[:len(fields)])
            for again in (copy.copy(made), pickle.loads(pickle.dumps(made))):
                with self.subTest(name):
                    self.assertIs(type(again), class_of(name))
                    self.assertEqual(vars(again), vars(made))


class Standing(unittest.TestCase):
    def test_leaf_error_stands_straight_under_value_error(self):
        self.assertEqual(errors.LeafError.__bases__, (ValueError,))

    def test_each_class_stands_straight_under_the_one_told(self):
        for name in WITHOUT_FIELDS + list(FIELDS):
            with self.subTest(name):
                self.assertEqual(class_of(name).__bases__, (base_of(name),))

    def test_no_class_stands_under_another_one_but_as_told(self):
        names = WITHOUT_FIELDS + list(FIELDS)
        for lower in names:
            for upper in names:
                told = lower == upper or (upper == "EditError" and lower in OF_EDITS)
                with self.subTest(lower, upper=upper):
                    self.assertIs(issubclass(class_of(lower), class_of(upper)), told)

    def test_each_is_taken_by_its_own_class_and_by_those_above_it(self):
        for name in WITHOUT_FIELDS + list(FIELDS):
            made = class_of(name)(*VALUES[:len(FIELDS.get(name, ()))])
            for taken in (class_of(name), base_of(name), errors.LeafError, ValueError):
                with self.subTest(name, taken=taken):
                    with self.assertRaises(taken) as caught:
                        raise made
                    self.assertIs(caught.exception, made)


if __name__ == "__main__":
    unittest.main()
