"""Statements: what is read from each of their forms, when they are equal, and how they are shown."""

import itertools
import unittest

from newestrow.conditions import Condition
from newestrow.errors import BadStatement
from newestrow.statements import Statement
from newestrow.tables import Table
from building import ANY

ONE = Table([("a", 2)])
TWO = Table([("a", 2), ("b", 3)])
THREE = Table([("a", 1), ("b", 2), ("c", 3)])
ODD = Table([("put", 2), ("table", 1), ("look", 3)])

# text, table, condition, name, inserted, mode, names
FORMS = [
    ("look", TWO, "true", None, None, None, []),
    ("look where a = 1", TWO, "a = 1", None, None, None, []),
    ("look where name = k or name != j", TWO, "name = k or name != j", None, None, None, ["j", "k"]),
    ("share", TWO, "true", None, None, "share", []),
    ("share where a + 1 = b - a or not true", TWO, "a + 1 = b - a or not true", None, None, "share", []),
    ("sole", TWO, "true", None, None, "sole", []),
    ("sole where false", TWO, "false", None, None, "sole", []),
    ("remove", TWO, "true", None, None, "sole", []),
    ("remove where ( a = 1 ) and name = remove", TWO, "( a = 1 ) and name = remove", None, None, "sole", ["remove"]),
    ("change a = 1", TWO, "true", None, None, "sole", []),
    ("change b = a + b - 1 where b > 0", TWO, "b > 0", None, None, "sole", []),
    ("change a = 0 , b = 3", TWO, "true", None, None, "sole", []),
    ("change b = 0 , a = b where name = zz", TWO, "name = zz", None, None, "sole", ["zz"]),
    ("change c = 1 , a = 1 , b = 1", THREE, "true", None, None, "sole", []),
    ("put k ( 1 )", ONE, None, "k", (1,), "sole", ["k"]),
    ("put k ( 0 ) or nothing", ONE, None, "k", (0,), "sole", ["k"]),
    ("put k ( 2 , 3 )", TWO, None, "k", (2, 3), "sole", ["k"]),
    ("put abcdefgh ( 1 , 2 , 3 ) or nothing", THREE, None, "abcdefgh", (1, 2, 3), "sole", ["abcdefgh"]),
    ("put k ( 0 , 0 ) or change a = 1", TWO, "true", "k", (0, 0), "sole", ["k"]),
    ("put k ( 0 , 0 ) or change a = 1 , b = b + 1 where b < 3", TWO, "b < 3", "k", (0, 0), "sole", ["k"]),
    ("put k ( 0 , 0 ) or change a = 1 where name = j", TWO, "name = j", "k", (0, 0), "sole", ["j", "k"]),
    ("put k ( 0 , 0 ) or change a = 1 where name = k and name != k", TWO, "name = k and name != k", "k", (0, 0), "sole",
     ["k"]),
    ("put where ( 1 )", ONE, None, "where", (1,), "sole", ["where"]),
    ("put nothing ( 1 ) or nothing", ONE, None, "nothing", (1,), "sole", ["nothing"]),
    ("put put ( 1 ) or change a = 0 where a = 1", ONE, "a = 1", "put", (1,), "sole", ["put"]),
    ("put a ( 1 )", ONE, None, "a", (1,), "sole", ["a"]),
    ("put name ( 1 )", ONE, None, "name", (1,), "sole", ["name"]),
    ("mark", TWO, None, None, None, None, []),
    ("back", TWO, None, None, None, None, []),
    ("table", TWO, None, None, None, None, []),
    ("change look = 1 , put = table where put = look", ODD, "put = look", None, None, "sole", []),
    ("look where look = 1", ODD, "look = 1", None, None, None, []),
    ("put put ( 2 , 1 , 3 ) or change put = 1", ODD, "true", "put", (2, 1, 3), "sole", ["put"]),
]


def tight(text):
    """Return the text without the spaces that may be left out."""
    for sign in "(),+-=":
        text = text.replace(f" {sign}", sign).replace(f"{sign} ", sign)
    return text.replace(" <", "<").replace("< ", "<").replace(" >", ">").replace("> ", ">").replace(" !=", "!=")


def wide(text):
    """Return the text with more spaces."""
    return "  " + text.replace(" ", "   ") + "    "


class FormsTest(unittest.TestCase):
    def check_form(self, text, form):
        written, table, condition, name, inserted, mode, names = form
        statement = Statement(text, table)
        self.assertEqual(statement.word, written.split(" ")[0])
        self.assertEqual(statement.name, name)
        self.assertEqual(statement.inserted, inserted)
        self.assertEqual(statement.mode, mode)
        self.assertEqual(statement.names(), names)
        self.assertIsInstance(statement.names(), list)
        self.assertEqual(str(statement), written)
        if condition is None:
            self.assertIsNone(statement.condition)
        else:
            self.assertIsInstance(statement.condition, Condition)
            self.assertEqual(str(statement.condition), condition)
            self.assertEqual(statement.condition, Condition(condition, table))
        if inserted is not None:
            self.assertIsInstance(statement.inserted, tuple)

    def test_each_form(self):
        for form in FORMS:
            with self.subTest(text=form[0]):
                self.check_form(form[0], form)

    def test_with_any_spaces(self):
        for form in FORMS:
            for text in (tight(form[0]), wide(form[0]), wide(tight(form[0])), " " + form[0], form[0] + " "):
                with self.subTest(text=text):
                    self.check_form(text, form)

    def test_spaces_that_may_be_left_out_behind_digits(self):
        self.assertEqual(str(Statement("change a=1where b=2or 1=a", TWO)), "change a = 1 where b = 2 or 1 = a")
        self.assertEqual(str(Statement("put k(1,2)or nothing", TWO)), "put k ( 1 , 2 ) or nothing")
        self.assertEqual(str(Statement("put k(1,2)or change b=a-1,a=0where not(a=1)", TWO)),
                         "put k ( 1 , 2 ) or change b = a - 1 , a = 0 where not ( a = 1 )")

    def test_each_form_of_put_has_its_own_condition(self):
        self.assertIsNone(Statement("put k (1)", ONE).condition)
        self.assertIsNone(Statement("put k (1) or nothing", ONE).condition)
        condition = Statement("put k (1) or change a = 1", ONE).condition
        self.assertEqual(condition, Condition("true", ONE))
        self.assertEqual(str(condition), "true")
        self.assertTrue(all(condition(values, name) for values in ONE.all_values() for name in (None, "k")))
        condition = Statement("put k (1) or change a = 1 where a = 2", ONE).condition
        self.assertEqual([condition((a,), "k") for a in range(3)], [False, False, True])

    def test_all_numbers_of_a_put(self):
        for values in itertools.product(range(2), range(3), range(4)):
            text = f"put k ({values[0]},{values[1]},{values[2]})"
            self.assertEqual(Statement(text, THREE).inserted, values)

    def test_by_name(self):
        self.assertEqual(str(Statement(text="look", table=ONE)), "look")
        self.assertEqual(str(Statement(table=ONE, text="look")), "look")
        self.assertEqual(Statement("change a = 2", ONE).new_values(values=(0,)), (2,))

    def test_lists_are_new(self):
        statement = Statement("put k (1) or change a = 1 where name = j", ONE)
        statement.names().append("z")
        statement.names().clear()
        self.assertEqual(statement.names(), ["j", "k"])
        looking = Statement("look where name = j", ONE)
        looking.names().clear()
        self.assertEqual(looking.names(), ["j"])
        self.assertEqual(looking.condition.names(), ["j"])

    def test_the_table_stays_as_it_is(self):
        table = Table([("a", 2), ("b", 3)])
        Statement("change a = b where b = 1", table).new_values((1, 3))
        self.assertEqual(table.columns, ("a", "b"))
        self.assertEqual(table.tops, (2, 3))

    def test_what_is_no_string(self):
        for thing in ANY:
            if not isinstance(thing, str):
                with self.subTest(thing=thing), self.assertRaises(BadStatement) as caught:
                    Statement(thing, ONE)
                self.assertEqual(caught.exception.at, -1)


class NewValuesTest(unittest.TestCase):
    def new(self, text, table=TWO):
        statement = Statement(text, table)
        found = {values: statement.new_values(values) for values in table.all_values()}
        for values in found.values():
            self.assertIn(values, table)
        return found

    def test_numbers(self):
        self.assertEqual(self.new("change a = 1", ONE), {(0,): (1,), (1,): (1,), (2,): (1,)})

    def test_above_the_top(self):
        self.assertEqual(self.new("change a = a + 1", ONE), {(0,): (1,), (1,): (2,), (2,): (2,)})
        self.assertEqual(self.new("change a = 999", ONE), {(0,): (2,), (1,): (2,), (2,): (2,)})
        self.assertEqual(self.new("change a = 3", ONE), {(0,): (2,), (1,): (2,), (2,): (2,)})

    def test_each_column_has_its_own_top(self):
        statement = Statement("change a = 9, b = 9, c = 9", THREE)
        self.assertEqual(statement.new_values((0, 0, 0)), (1, 2, 3))
        statement = Statement("change c = 9, b = 9, a = 9", THREE)
        self.assertEqual(statement.new_values((0, 0, 0)), (1, 2, 3))

    def test_below_0(self):
        self.assertEqual(self.new("change a = a - 1", ONE), {(0,): (0,), (1,): (0,), (2,): (1,)})
        self.assertEqual(self.new("change a = 0 - 999", ONE), {(0,): (0,), (1,): (0,), (2,): (0,)})
        self.assertEqual(self.new("change a = 1 - a", ONE), {(0,): (1,), (1,): (0,), (2,): (0,)})

    def test_only_the_result_is_bounded(self):
        self.assertEqual(self.new("change a = a - 5 + 5", ONE), {(a,): (a,) for a in range(3)})
        self.assertEqual(self.new("change a = a + 5 - 5", ONE), {(a,): (a,) for a in range(3)})
        self.assertEqual(self.new("change a = 0 - a + 2", ONE), {(a,): (2 - a,) for a in range(3)})

    def test_old_values_of_columns_that_are_set_too(self):
        self.assertEqual(self.new("change a = b, b = a"), {(a, b): (min(b, 2), a) for a, b in TWO.all_values()})
        self.assertEqual(self.new("change b = a, a = b"), {(a, b): (min(b, 2), a) for a, b in TWO.all_values()})
        self.assertEqual(self.new("change a = 0, b = a"), {(a, b): (0, a) for a, b in TWO.all_values()})
        self.assertEqual(self.new("change a = a + 1, b = a + b"),
                         {(a, b): (min(a + 1, 2), min(a + b, 3)) for a, b in TWO.all_values()})

    def test_columns_in_any_order(self):
        sums = {"a": "b - c + 1", "b": "c - a", "c": "a + b + c"}
        for names in itertools.permutations("abc"):
            text = "change " + ", ".join(f"{name} = {sums[name]}" for name in names)
            wanted = {
                (a, b, c): (max(0, min(1, b - c + 1)), max(0, min(2, c - a)), min(3, a + b + c))
                for a, b, c in THREE.all_values()
            }
            self.assertEqual(self.new(text, THREE), wanted)

    def test_other_columns_keep_their_values(self):
        self.assertEqual(self.new("change b = 1"), {(a, b): (a, 1) for a, b in TWO.all_values()})
        self.assertEqual(self.new("change a = 1"), {(a, b): (1, b) for a, b in TWO.all_values()})
        self.assertEqual(self.new("change c = a, a = c", THREE), {(a, b, c): (min(c, 1), b, a) for a, b, c in THREE.all_values()})

    def test_the_condition_does_not_matter(self):
        self.assertEqual(self.new("change a = 2 where a = 1", ONE), {(a,): (2,) for a in range(3)})
        self.assertEqual(self.new("change a = 2 where false", ONE), {(a,): (2,) for a in range(3)})

    def test_put_with_change(self):
        self.assertEqual(self.new("put k (0) or change a = a + 1 where a = 1", ONE), {(0,): (1,), (1,): (2,), (2,): (2,)})
        self.assertEqual(self.new("put k (0,0) or change b = a, a = b - 1"),
                         {(a, b): (max(0, b - 1), a) for a, b in TWO.all_values()})

    def test_without_sets(self):
        for text in ("look", "share where a = 1", "sole", "remove", "put k (1, 1)", "put k (1, 1) or nothing", "mark", "back",
                     "table"):
            self.assertEqual(self.new(text), {values: values for values in TWO.all_values()}, text)

    def test_values_are_a_tuple(self):
        for text in ("look", "change a = 1", "put k (0)"):
            self.assertIsInstance(Statement(text, ONE).new_values((1,)), tuple)


class EqualTest(unittest.TestCase):
    def test_the_same_tokens(self):
        for form in FORMS:
            one = Statement(form[0], form[1])
            self.assertIs(one == Statement(wide(form[0]), form[1]), True)
            self.assertIs(one == Statement(tight(form[0]), form[1]), True)
            self.assertIs(one != Statement(tight(form[0]), form[1]), False)

    def test_other_tokens(self):
        texts = [form[0] for form in FORMS if form[1] is TWO]
        for one, other in itertools.permutations(texts, 2):
            self.assertIs(Statement(one, TWO) == Statement(other, TWO), False, (one, other))
            self.assertIs(Statement(one, TWO) != Statement(other, TWO), True, (one, other))

    def test_what_means_the_same_is_not_equal(self):
        for one, other in (("look", "look where true"), ("change a = 1", "change a = 0 + 1"), ("put k (1)", "put k (1) or nothing"),
                           ("look where a = 1", "look where 1 = a"), ("look where a = 1", "look where ( a = 1 )")):
            self.assertFalse(Statement(one, ONE) == Statement(other, ONE), (one, other))

    def test_tables(self):
        for text in ("look", "mark", "change a = 1 where a = 0", "look where name = k"):
            one = Statement(text, TWO)
            self.assertTrue(one == Statement(text, Table([("a", 2), ("b", 3)])))
            self.assertFalse(one == Statement(text, Table([("a", 2), ("b", 2)])))
            self.assertFalse(one == Statement(text, Table([("b", 3), ("a", 2)])))
            self.assertFalse(one == Statement(text, ONE))

    def test_other_objects(self):
        one = Statement("look where a = 1", ONE)
        for other in [*ANY, "look where a = 1", ONE, Condition("a = 1", ONE), one.condition, object(), Statement]:
            self.assertIs(one == other, False)
            self.assertIs(other == one, False)
            self.assertIs(one != other, True)


if __name__ == "__main__":
    unittest.main()
