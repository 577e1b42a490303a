"""The error classes: their bases, their fields, and that they are raised and caught."""

import unittest

from newestrow import errors
from newestrow.errors import (
    BadCondition, BadDatabase, BadHistory, BadKind, BadMix, BadOrder, BadStatement, BadTable, BadTransaction,
    BadWeaving, Bars, Busy, Ended, Failed, NewestrowError, NoTarget, NotPossible, Ring, TooMany, Unfinished, Waits,
)

CLASSES = [
    (BadTable, NewestrowError, ["at"]),
    (BadCondition, NewestrowError, ["at"]),
    (BadStatement, NewestrowError, ["at"]),
    (BadTransaction, NewestrowError, ["at"]),
    (BadMix, NewestrowError, ["at"]),
    (TooMany, NewestrowError, ["what"]),
    (BadWeaving, NewestrowError, ["at"]),
    (BadKind, NewestrowError, ["kind"]),
    (BadDatabase, NewestrowError, ["at"]),
    (BadOrder, NewestrowError, ["order"]),
    (BadHistory, NewestrowError, ["at"]),
    (NotPossible, NewestrowError, ["at"]),
    (Bars, NewestrowError, ["place", "first", "second"]),
    (Waits, RuntimeError, ["holders"]),
    (Ring, RuntimeError, ["sessions"]),
    (Failed, RuntimeError, ["target"]),
    (Busy, RuntimeError, []),
    (Ended, RuntimeError, []),
    (NoTarget, LookupError, ["target"]),
    (Unfinished, LookupError, ["targets"]),
]

VALUES = [0, -1, 10 ** 29, True, None, "", "k", (0, 1), [], [1, [2]], (None, (0, [1, "a"]))]


class BasesTest(unittest.TestCase):
    def test_base_of_the_package_errors(self):
        self.assertEqual(NewestrowError.__bases__, (ValueError,))
        with self.assertRaises(ValueError):
            raise NewestrowError()

    def test_each_class_is_directly_under_its_base(self):
        for cls, base, _ in CLASSES:
            with self.subTest(cls=cls.__name__):
                self.assertEqual(cls.__bases__, (base,))

    def test_each_class_is_defined_in_errors(self):
        for cls in [NewestrowError] + [cls for cls, _, _ in CLASSES]:
            with self.subTest(cls=cls.__name__):
                self.assertEqual(cls.__module__, "newestrow.errors")
                self.assertIs(getattr(errors, cls.__name__), cls)


class FieldsTest(unittest.TestCase):
    def test_by_position(self):
        for cls, _, fields in CLASSES:
            for shift in range(len(VALUES)):
                given = [VALUES[(shift + k) % len(VALUES)] for k in range(len(fields))]
                with self.subTest(cls=cls.__name__, given=given):
                    made = cls(*given)
                    for field, value in zip(fields, given):
                        self.assertEqual(getattr(made, field), value)
                        self.assertIs(type(getattr(made, field)), type(value))

    def test_by_keyword(self):
        for cls, _, fields in CLASSES:
            for shift in range(len(VALUES)):
                given = {field: VALUES[(shift + k) % len(VALUES)] for k, field in enumerate(fields)}
                with self.subTest(cls=cls.__name__, given=given):
                    made = cls(**dict(reversed(list(given.items()))))
                    for field, value in given.items():
                        self.assertEqual(getattr(made, field), value)

    def test_every_field_is_asked_for(self):
        for cls, _, fields in CLASSES:
            if fields:
                with self.subTest(cls=cls.__name__), self.assertRaises(TypeError):
                    cls(*[0] * (len(fields) - 1))

    def test_lists_that_change_later_do_not_matter(self):
        for cls, _, fields in CLASSES:
            for field in fields:
                inner = [1]
                outer = [0, (inner, 2)]
                given = {name: None for name in fields}
                given[field] = outer
                made = cls(**given)
                inner.append(3)
                outer.append(4)
                with self.subTest(cls=cls.__name__, field=field):
                    self.assertEqual(getattr(made, field), [0, ([1], 2)])

    def test_dicts_that_change_later_do_not_matter(self):
        given = {(0, 0): (1,), (0, 1): [2]}
        made = BadKind(given)
        given[0, 1].append(3)
        given[0, 2] = (4,)
        self.assertEqual(made.kind, {(0, 0): (1,), (0, 1): [2]})

    def test_arguments_stay_as_they_are(self):
        given = [1, [2], (3, [4])]
        BadOrder(given)
        self.assertEqual(given, [1, [2], (3, [4])])


class RaisedTest(unittest.TestCase):
    def test_caught_by_its_class_and_by_its_base(self):
        for cls, base, fields in CLASSES:
            for caught in (cls, base, ValueError if base is NewestrowError else base):
                with self.subTest(cls=cls.__name__, caught=caught.__name__):
                    with self.assertRaises(caught) as context:
                        raise cls(*range(5, 5 + len(fields)))
                    self.assertIs(type(context.exception), cls)
                    for value, field in enumerate(fields, start=5):
                        self.assertEqual(getattr(context.exception, field), value)

    def test_not_caught_by_others(self):
        for cls, base, fields in CLASSES:
            made = cls(*[0] * len(fields))
            for other, other_base, _ in CLASSES:
                with self.subTest(cls=cls.__name__, other=other.__name__):
                    self.assertEqual(isinstance(made, other), other is cls)
                    self.assertEqual(isinstance(made, other_base), other_base is base)


if __name__ == "__main__":
    unittest.main()
