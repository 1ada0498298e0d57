import copy
import pickle
import unittest

from pathask import errors

FIELDS = {
    "NoKnot": ("name",),
    "NoMark": ("name",),
    "NoName": ("name",),
    "Twice": ("name",),
    "TooMany": ("word",),
    "NoTie": ("tie",),
    "NoMeet": ("knot",),
    "NoText": ("at",),
    "NoLine": ("at",),
    "NoWay": ("count",),
    "TooLong": ("count",),
    "GoesRound": ("ring",),
    "NoSuch": ("number",),
    "NoPair": ("one", "other"),
}

VALUES = {
    "name": "ann",
    "word": "knots",
    "tie": ("a", "likes", "b"),
    "knot": "bob",
    "at": 7,
    "count": 1234,
    "ring": ["x", "y"],
    "number": -3,
    "one": "a",
    "other": "b",
}


def class_of(name):
    return getattr(errors, name)


def made(name):
    return class_of(name)(*[VALUES[field] for field in FIELDS[name]])


class TheClasses(unittest.TestCase):
    def test_the_base_lies_straight_under_value_error(self):
        self.assertEqual(errors.PathError.__bases__, (ValueError,))

    def test_fourteen_lie_straight_under_the_base(self):
        self.assertEqual(len(FIELDS), 14)
        for name in FIELDS:
            with self.subTest(name):
                self.assertEqual(class_of(name).__bases__, (errors.PathError,))

    def test_none_lies_under_another(self):
        for one in FIELDS:
            for other in FIELDS:
                with self.subTest(one=one, other=other):
                    self.assertEqual(issubclass(class_of(one), class_of(other)), one == other)

    def test_there_are_no_refusals_beyond_the_fourteen(self):
        under = {kind.__name__ for kind in errors.PathError.__subclasses__()}
        self.assertEqual(under, set(FIELDS))


class TheFields(unittest.TestCase):
    def test_each_bears_its_fields_by_name(self):
        for name, fields in FIELDS.items():
            with self.subTest(name):
                error = made(name)
                for field in fields:
                    self.assertEqual(getattr(error, field), VALUES[field])
                    self.assertEqual(type(getattr(error, field)), type(VALUES[field]))

    def test_the_order_of_two_fields(self):
        error = errors.NoPair("first", "last")
        self.assertEqual((error.one, error.other), ("first", "last"))

    def test_fields_may_be_given_by_name(self):
        for name, fields in FIELDS.items():
            with self.subTest(name):
                error = class_of(name)(**{field: VALUES[field] for field in fields})
                self.assertEqual([getattr(error, field) for field in fields], [VALUES[field] for field in fields])

    def test_fewer_or_more_fields_make_none(self):
        for name, fields in FIELDS.items():
            values = [VALUES[field] for field in fields]
            with self.subTest(name):
                self.assertRaises(TypeError, class_of(name), *values[1:])
                self.assertRaises(TypeError, class_of(name), *values, "more")

    def test_each_is_raised_and_taken_as_a_refusal(self):
        for name in FIELDS:
            with self.subTest(name):
                with self.assertRaises(errors.PathError) as taken:
                    raise made(name)
                self.assertIs(type(taken.exception), class_of(name))
                self.assertIsInstance(taken.exception, ValueError)

    def test_a_copied_error_bears_the_same(self):
        for name, fields in FIELDS.items():
            for again in (copy.copy(made(name)), pickle.loads(pickle.dumps(made(name)))):
                with self.subTest(name):
                    self.assertIs(type(again), class_of(name))
                    self.assertEqual([getattr(again, field) for field in fields], [VALUES[field] for field in fields])


class TheCopy(unittest.TestCase):
    def test_a_list_handed_in_is_kept_as_a_copy(self):
        ring = ["x", "y"]
        error = errors.GoesRound(ring)
        ring.append("z")
        ring[0] = "changed"
        self.assertEqual(error.ring, ["x", "y"])
        self.assertEqual(error.args, (["x", "y"],))

    def test_the_list_handed_in_is_not_changed(self):
        ring = ["x", "y"]
        errors.GoesRound(ring).ring.clear()
        self.assertEqual(ring, ["x", "y"])

    def test_two_errors_of_one_list_are_apart(self):
        ring = ["x", "y"]
        one, other = errors.GoesRound(ring), errors.GoesRound(ring)
        one.ring.append("z")
        self.assertEqual(other.ring, ["x", "y"])


if __name__ == "__main__":
    unittest.main()
