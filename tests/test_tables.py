"""Tables: which columns do, and what a table tells of its values."""

import inspect
import itertools
import unittest

from newestrow.conditions import Condition
from newestrow.errors import BadTable, NewestrowError
from newestrow.tables import Table

RESERVED = "and or not true false name where nothing change".split()
NO_NAMES = ["", "abcdefghi", "abcdefghij", "A", "aB", "a1", "1", "a_b", "_", "a b", " a", "a ", "-", "a-b", "a\n",
            "\u00e4", "\u0430", None, 0, 1, True, ("a",), ["a"], ()]
NO_TOPS = [0, -1, 4, 5, 10 ** 29, True, False, None, "1", "", (1,), [1], ()]


def bad_at(columns):
    """Return the index that BadTable tells, or None if the columns are a table."""
    try:
        Table(columns)
    except BadTable as wrong:
        return wrong.at
    return None


class ColumnsTest(unittest.TestCase):
    def test_one_to_three_columns(self):
        for many in (1, 2, 3):
            columns = [("a", 1), ("b", 2), ("c", 3)][:many]
            table = Table(columns)
            self.assertEqual(table.columns, ("a", "b", "c")[:many])
            self.assertEqual(table.tops, (1, 2, 3)[:many])
            self.assertIs(type(table.columns), tuple)
            self.assertIs(type(table.tops), tuple)
            self.assertEqual(len(table), many)

    def test_no_column_and_more_than_three(self):
        for columns in (
            [],
            [("a", 1), ("b", 1), ("c", 1), ("d", 1)],
            [("a", 1), ("b", 1), ("c", 1), ("d", 1), ("e", 1)],
            [None, ("b", 1), ("c", 1), ("d", 1)],
            [("a", 1), ("a", 1), ("a", 1), ("a", 1)],
            [None] * 600,
        ):
            with self.subTest(columns=columns):
                self.assertEqual(bad_at(columns), -1)

    def test_tops(self):
        for top in (1, 2, 3):
            self.assertEqual(Table([("a", top)]).tops, (top,))
        for top in NO_TOPS:
            with self.subTest(top=top):
                self.assertEqual(bad_at([("a", top)]), 0)
                self.assertEqual(bad_at([("b", 1), ("a", top)]), 1)
                self.assertEqual(bad_at([("b", 1), ("c", 3), ("a", top)]), 2)

    def test_names(self):
        for name in ["a", "z", "abcdefgh", "zzzzzzzz", "nam", "names", "wher", "changes", "look", "share", "sole", "remove",
                     "put", "mark", "back", "table", "begin", "session", "commit", "undo", "row", "none", "no", "an"]:
            with self.subTest(name=name):
                self.assertEqual(Table([(name, 2)]).columns, (name,))
        for letter in "abcdefghijklmnopqrstuvwxyz":
            self.assertEqual(Table([(letter * 8, 1)]).columns, (letter * 8,))

    def test_names_that_do_not_do(self):
        for name in RESERVED + NO_NAMES:
            with self.subTest(name=name):
                self.assertEqual(bad_at([(name, 1)]), 0)
                self.assertEqual(bad_at([("a", 1), (name, 1)]), 1)
                self.assertEqual(bad_at([("a", 1), ("b", 3), (name, 1)]), 2)

    def test_entries_that_are_no_pairs(self):
        for entry in (["a", 1], ("a",), ("a", 1, 1), (), [], "a1", "a", None, 1, True, ("a", 1, None), (("a", 1),),
                      [("a", 1)], (1, "a"), ("a", ("b", 1))):
            with self.subTest(entry=entry):
                self.assertEqual(bad_at([entry]), 0)
                self.assertEqual(bad_at([("c", 1), entry]), 1)
                self.assertEqual(bad_at([("c", 1), ("d", 1), entry]), 2)

    def test_a_name_twice(self):
        self.assertEqual(bad_at([("a", 1), ("a", 1)]), 1)
        self.assertEqual(bad_at([("a", 1), ("a", 2)]), 1)
        self.assertEqual(bad_at([("a", 1), ("b", 1), ("a", 3)]), 2)
        self.assertEqual(bad_at([("a", 1), ("b", 1), ("b", 1)]), 2)

    def test_the_first_wrong_entry_counts(self):
        self.assertEqual(bad_at([None, ("a", 0)]), 0)
        self.assertEqual(bad_at([("a", 1), ("a", 2), None]), 1)
        self.assertEqual(bad_at([("a", 1), None, ("a", 2)]), 1)
        self.assertEqual(bad_at([("a", 0), ("a", 1)]), 0)
        self.assertEqual(bad_at([("a", 1), ("b", 9), ("b", 1)]), 1)
        self.assertEqual(bad_at([("a", 1), ["b", 1], ("c", 4)]), 1)

    def test_the_error_is_one_of_the_package(self):
        with self.assertRaises(NewestrowError) as context:
            Table([])
        self.assertIs(type(context.exception), BadTable)
        self.assertIs(type(context.exception.at), int)

    def test_the_argument_is_copied_and_stays(self):
        columns = [("a", 1), ("b", 3)]
        table = Table(columns)
        self.assertEqual(columns, [("a", 1), ("b", 3)])
        columns[0] = ("c", 2)
        columns.append(("d", 1))
        self.assertEqual(table.columns, ("a", "b"))
        self.assertEqual(table.tops, (1, 3))
        self.assertEqual(len(table), 2)
        self.assertEqual(len(table.all_values()), 8)
        self.assertEqual(repr(table), "Table(a=1, b=3)")
        self.assertEqual(table, Table([("a", 1), ("b", 3)]))
        self.assertIn((1, 3), table)
        wrong = [("a", 1), None]
        self.assertEqual(bad_at(wrong), 1)
        self.assertEqual(wrong, [("a", 1), None])

    def test_by_name(self):
        self.assertEqual(Table(columns=[("a", 1)]).columns, ("a",))
        with self.assertRaises(BadTable):
            Table(columns=[])
        self.assertEqual(list(inspect.signature(Table).parameters), ["columns"])

    def test_defined_where_the_document_says(self):
        self.assertEqual(Table.__module__, "newestrow.tables")
        for name in ("__init__", "all_values", "__len__", "__contains__", "__eq__", "__repr__"):
            self.assertIn(name, vars(Table))


class ValuesTest(unittest.TestCase):
    def test_all_values(self):
        self.assertEqual(Table([("a", 1)]).all_values(), [(0,), (1,)])
        self.assertEqual(Table([("a", 3)]).all_values(), [(0,), (1,), (2,), (3,)])
        self.assertEqual(
            Table([("b", 1), ("a", 2)]).all_values(),
            [(0, 0), (0, 1), (0, 2), (1, 0), (1, 1), (1, 2)],
        )

    def test_all_values_of_every_size(self):
        for many in (1, 2, 3):
            for tops in itertools.product((1, 2, 3), repeat=many):
                table = Table(list(zip("xay", tops)))
                expected = list(itertools.product(*[range(top + 1) for top in tops]))
                found = table.all_values()
                self.assertIs(type(found), list)
                self.assertEqual(found, expected)
                self.assertEqual(found, sorted(found))
                for values in found:
                    self.assertIs(type(values), tuple)
                    self.assertIn(values, table)

    def test_a_new_list_each_time(self):
        table = Table([("a", 1), ("b", 1)])
        first = table.all_values()
        self.assertIsNot(first, table.all_values())
        first.clear()
        self.assertEqual(table.all_values(), [(0, 0), (0, 1), (1, 0), (1, 1)])
        self.assertIn((1, 1), table)

    def test_in(self):
        table = Table([("a", 1), ("b", 3)])
        for thing in itertools.product(range(-2, 6), repeat=2):
            with self.subTest(thing=thing):
                self.assertIs(thing in table, 0 <= thing[0] <= 1 and 0 <= thing[1] <= 3)
                self.assertIs(thing not in table, not (0 <= thing[0] <= 1 and 0 <= thing[1] <= 3))

    def test_in_for_any_value(self):
        table = Table([("a", 1), ("b", 3)])
        for thing in (
            (), (0,), (0, 0, 0), [0, 0], [], None, 0, 1, 10 ** 29, True, "", "00", "ab", (None, 0), (0, None), ("0", "0"),
            (True, 0), (0, True), (False, 0), (0, False), (True, True), ((0,), 0), (0, (0,)), ([0], 0), (0, [0]), ("", 0),
            ((0, 0),), [(0, 0)], ((0, 0), (0, 0)), (0, 10 ** 29), (-10 ** 29, 0), table, ("a", "b"), [[[]]],
        ):
            with self.subTest(thing=thing):
                self.assertIs(thing in table, False)
        for thing in ((True,), (False,), (2,), (-1,), [0], 0, "0", ((0,),), (0, 0), ()):
            with self.subTest(thing=thing):
                self.assertNotIn(thing, Table([("a", 1)]))
        self.assertNotIn(Condition("true", table), table)


class ComparedTest(unittest.TestCase):
    def test_equal_columns(self):
        for columns in ([("a", 1)], [("a", 1), ("b", 3)], [("a", 1), ("b", 3), ("c", 2)]):
            one, other = Table(columns), Table(list(columns))
            self.assertIs(one == other, True)
            self.assertIs(one != other, False)
            self.assertIs(one == one, True)

    def test_different_columns(self):
        tables = [
            Table(columns) for columns in (
                [("a", 1)], [("a", 2)], [("b", 1)], [("a", 1), ("b", 1)], [("b", 1), ("a", 1)], [("a", 1), ("b", 2)],
                [("a", 2), ("b", 1)], [("a", 1), ("b", 1), ("c", 1)], [("a", 1), ("c", 1), ("b", 1)],
            )
        ]
        for one, other in itertools.permutations(tables, 2):
            self.assertIs(one == other, False)
            self.assertIs(one != other, True)

    def test_equal_to_nothing_of_another_class(self):
        class Agreeing:
            def __eq__(self, other):
                return True

        class Likewise:
            columns = ("a",)
            tops = (1,)

        table = Table([("a", 1)])
        for thing in (None, 0, 1, True, "Table(a=1)", ("a",), (("a", 1),), [("a", 1)], ["a"], {"a": 1}, Agreeing(),
                      Likewise(), Condition("true", table), Table):
            self.assertIs(table == thing, False)
            self.assertIs(table != thing, True)

    def test_repr(self):
        self.assertEqual(repr(Table([("a", 1)])), "Table(a=1)")
        self.assertEqual(repr(Table([("a", 1), ("b", 3)])), "Table(a=1, b=3)")
        self.assertEqual(repr(Table([("zz", 2), ("abcdefgh", 3), ("m", 1)])), "Table(zz=2, abcdefgh=3, m=1)")
        self.assertEqual(str([Table([("a", 1)])]), "[Table(a=1)]")

    def test_asked_twice(self):
        table = Table([("a", 1), ("b", 2)])
        for _ in range(2):
            self.assertEqual((table.columns, table.tops, len(table)), (("a", "b"), (1, 2), 2))
            self.assertEqual(repr(table), "Table(a=1, b=2)")
            self.assertEqual(len(table.all_values()), 6)
            self.assertIn((1, 2), table)


if __name__ == "__main__":
    unittest.main()
