"""Conditions: how they are written, and for which values and names they hold."""

import inspect
import itertools
import random
import re
import unittest

from newestrow.conditions import Condition
from newestrow.errors import BadCondition
from newestrow.tables import Table

ONE = Table([("a", 3)])
TWO = Table([("a", 2), ("b", 3)])
THREE = Table([("b", 1), ("abcdefgh", 3), ("k", 2)])
NAMES = [None, "k", "l", "a", "name", "zzzzzzzz"]


def split(text):
    """Return the tokens of a text that is written with tokens and spaces only."""
    return re.findall(r"[a-z]+|[0-9]+|!=|<=|>=|[^ ]", text)


def as_python(text):
    """Return the condition as an expression of Python, which has the same order of `not`, `and` and `or`."""
    text = " ".join(split(text))
    text = re.sub(r"\bname (=|!=) ([a-z]+)", r"NAME \1 '\2'", text)
    text = re.sub(r"(?<![!<>])=", "==", text)
    text = re.sub(r"(?<!['a-z])true(?!')", "True", text)
    return re.sub(r"(?<!['a-z])false(?!')", "False", text)


def oracle(text, table):
    """Return a function that tells whether the condition holds."""
    code = compile(as_python(text), "condition", "eval")

    def holds(values, name):
        return eval(code, {"NAME": name, **dict(zip(table.columns, values))})

    return holds


def holding(text, table, name=None):
    """Return the values for which a condition holds."""
    condition = Condition(text, table)
    return [values for values in table.all_values() if condition(values, name)]


def sums(chance, table):
    """Return a sum, written with single spaces."""
    terms = [chance.choice([*table.columns, *table.columns, str(chance.randrange(5))])
             for _ in range(chance.choice([1, 1, 1, 2, 3]))]
    words = [terms[0]]
    for term in terms[1:]:
        words += [chance.choice("+-"), term]
    return " ".join(words)


def conditions(chance, table, depth):
    """Return a condition, written with single spaces."""
    kind = chance.randrange(10) if depth else chance.randrange(4)
    if kind == 0:
        return chance.choice(["true", "false"])
    if kind == 1:
        return f"name {chance.choice(['=', '!='])} {chance.choice(['k', 'l', 'a', 'name', 'true'])}"
    if kind in (2, 3):
        return f"{sums(chance, table)} {chance.choice(['=', '!=', '<', '<=', '>', '>='])} {sums(chance, table)}"
    if kind in (4, 5):
        return f"not {conditions(chance, table, 0)}"
    if kind == 6:
        return f"( {conditions(chance, table, depth - 1)} )"
    word = chance.choice(["and", "or"])
    return f"{conditions(chance, table, depth - 1)} {word} {conditions(chance, table, depth - 1)}"


class HoldsTest(unittest.TestCase):
    def check(self, text, table=TWO, names=NAMES):
        holds = oracle(text, table)
        condition = Condition(text, table)
        for values in table.all_values():
            self.assertIs(condition(values), holds(values, None), (text, values))
            for name in names:
                self.assertIs(condition(values, name), holds(values, name), (text, values, name))

    def test_true_and_false(self):
        self.assertEqual(holding("true", ONE), [(0,), (1,), (2,), (3,)])
        self.assertEqual(holding("false", ONE), [])
        for name in NAMES:
            self.assertEqual(len(holding("true", THREE, name)), 24)
            self.assertEqual(holding("false", THREE, name), [])

    def test_each_sign(self):
        self.assertEqual(holding("a = 1", ONE), [(1,)])
        self.assertEqual(holding("a != 1", ONE), [(0,), (2,), (3,)])
        self.assertEqual(holding("a < 1", ONE), [(0,)])
        self.assertEqual(holding("a <= 1", ONE), [(0,), (1,)])
        self.assertEqual(holding("a > 1", ONE), [(2,), (3,)])
        self.assertEqual(holding("a >= 1", ONE), [(1,), (2,), (3,)])
        for sign in ("=", "!=", "<", "<=", ">", ">="):
            for left, right in itertools.product(["a", "b", "0", "1", "2", "a + b", "b - a"], repeat=2):
                self.check(f"{left} {sign} {right}")

    def test_terms(self):
        self.assertEqual(holding("0 = 0", ONE), [(0,), (1,), (2,), (3,)])
        self.assertEqual(holding("1 = 0", ONE), [])
        self.assertEqual(holding("2 = a", ONE), [(2,)])
        self.assertEqual(holding("a = a", ONE), [(0,), (1,), (2,), (3,)])
        self.assertEqual(holding("b = a", TWO), [(0, 0), (1, 1), (2, 2)])
        self.assertEqual(holding("abcdefgh = 3 and k = 2", THREE), [(0, 3, 2), (1, 3, 2)])

    def test_sums(self):
        self.assertEqual(holding("a + 1 = 2", ONE), [(1,)])
        self.assertEqual(holding("a - 1 = 2", ONE), [(3,)])
        self.assertEqual(holding("0 - a = a - 4", ONE), [(2,)])
        self.assertEqual(holding("3 - 1 - 1 = a", ONE), [(1,)])
        self.assertEqual(holding("3 - 1 + 1 = a", ONE), [(3,)])
        self.assertEqual(holding("a + a = 4", ONE), [(2,)])
        self.assertEqual(holding("a - a + a - a = 0", ONE), [(0,), (1,), (2,), (3,)])
        self.assertEqual(holding("a + b = 5", TWO), [(2, 3)])
        self.assertEqual(holding("a - b > 0", TWO), [(1, 0), (2, 0), (2, 1)])
        self.assertEqual(holding("0 - 1 < 0", ONE), [(0,), (1,), (2,), (3,)])
        self.assertEqual(holding("a + 998 = 999", ONE), [(1,)])
        self.assertEqual(holding("a - 999 + 999 + 999 - 998 = 2", ONE), [(1,)])
        self.assertEqual(holding("b + abcdefgh + k = 6", THREE), [(1, 3, 2)])
        self.check("a + b - 1 - a <= b - 1 + a - 2")

    def test_numbers(self):
        for number in (0, 1, 9, 10, 11, 99, 100, 101, 109, 110, 990, 999):
            self.assertEqual(len(holding(f"{number} = {number}", ONE)), 4)
            self.assertEqual(len(holding(f"{number} < {number}", ONE)), 0)
            self.assertEqual(len(holding(f"{number} - {max(number - 1, 0)} > 1", ONE)), 0)

    def test_names(self):
        for name in NAMES:
            self.assertEqual(Condition("name = k", ONE)((0,), name), name == "k")
            self.assertEqual(Condition("name != k", ONE)((0,), name), name != "k")
        self.assertIs(Condition("name = k", ONE)((0,)), False)
        self.assertIs(Condition("name != k", ONE)((0,)), True)
        self.assertIs(Condition("name = k", ONE)((0,), None), False)
        self.assertIs(Condition("name != k", ONE)((0,), None), True)

    def test_any_word_is_a_name(self):
        words = ["a", "k", "name", "and", "or", "not", "true", "false", "where", "nothing", "change", "look", "zzzzzzzz"]
        for word in words:
            for other in words:
                self.assertIs(Condition(f"name = {word}", ONE)((1,), other), word == other)
                self.assertIs(Condition(f"name != {word}", ONE)((1,), other), word != other)
            self.assertEqual(Condition(f"name = {word} and name != {word}", ONE).names(), [word])
            self.assertEqual(str(Condition(f"not name={word}", ONE)), f"not name = {word}")

    def test_values_and_names_together(self):
        condition = Condition("name = k and a = 1 or name != l and a = 2 or a = 3", ONE)
        for name, expected in ((None, [2, 3]), ("k", [1, 2, 3]), ("l", [3]), ("m", [2, 3])):
            self.assertEqual([value for value in range(4) if condition((value,), name)], expected)

    def test_and_binds_before_or(self):
        self.assertEqual(holding("true or true and false", ONE), [(0,), (1,), (2,), (3,)])
        self.assertEqual(holding("false and true or true", ONE), [(0,), (1,), (2,), (3,)])
        self.assertEqual(holding("( true or true ) and false", ONE), [])
        self.assertEqual(holding("false and ( true or true )", ONE), [])
        self.assertEqual(holding("a = 1 or a > 1 and a < 3 or a = 3 and false", ONE), [(1,), (2,)])
        for first, second in itertools.product(["and", "or"], repeat=2):
            for bits in itertools.product(["true", "false"], repeat=3):
                self.check(f"{bits[0]} {first} {bits[1]} {second} {bits[2]}", ONE)

    def test_not_binds_before_and(self):
        self.assertEqual(holding("not true and false", ONE), [])
        self.assertEqual(holding("not false and true", ONE), [(0,), (1,), (2,), (3,)])
        self.assertEqual(holding("not false or true", ONE), [(0,), (1,), (2,), (3,)])
        self.assertEqual(holding("not ( false or true )", ONE), [])
        self.assertEqual(holding("not a = 1 and not a = 2", ONE), [(0,), (3,)])
        self.assertEqual(holding("not a + 1 = 2", ONE), [(0,), (2,), (3,)])
        self.assertEqual(holding("not not a = 1", ONE), [(1,)])
        self.assertEqual(holding("not not not a = 1", ONE), [(0,), (2,), (3,)])
        self.assertEqual(holding("not ( not ( a = 1 ) and a < 3 )", ONE), [(1,), (3,)])
        self.assertIs(Condition("not name = k", ONE)((0,)), True)
        self.assertIs(Condition("not name != k", ONE)((0,)), False)

    def test_brackets(self):
        self.assertEqual(holding("( a = 1 )", ONE), [(1,)])
        self.assertEqual(holding("((a=1))", ONE), [(1,)])
        self.assertEqual(holding("not((not(a=1)))", ONE), [(1,)])
        self.check("(a = 1 or b = 1) and (a = 2 or b = 2 or not (a = 0 and name = k)) or (name != l)")

    def test_nested_twenty_deep(self):
        for depth in range(1, 21):
            self.assertEqual(holding("(" * depth + "a=1" + ")" * depth, ONE), [(1,)])
            expected = [(1,)] if depth % 2 == 0 else [(0,), (2,), (3,)]
            self.assertEqual(holding("not " * depth + "a=1", ONE), expected)
        self.assertEqual(holding("not(" * 10 + "a=1" + ")" * 10, ONE), [(1,)])
        self.assertEqual(holding("(a=0 or " * 20 + "a = 2" + ")" * 20, ONE), [(0,), (2,)])
        self.assertEqual(holding("(a>0 and " * 20 + "a < 3" + ")" * 20, ONE), [(1,), (2,)])
        self.assertEqual(holding("(" * 20 + "a = 2" + " or a=0)" * 20, ONE), [(0,), (2,)])
        self.assertEqual(holding("(" * 20 + "a < 3" + " and a>0)" * 20, ONE), [(1,), (2,)])

    def test_somewhat_deeper_and_longer_is_no_error(self):
        self.assertEqual(holding("(" * 40 + "a=1" + ")" * 40, ONE), [(1,)])
        self.assertEqual(holding("not " * 40 + "a=1", ONE), [(1,)])
        self.assertEqual(holding(" or ".join(["a = 1"] * 60), ONE), [(1,)])

    def test_many_conditions(self):
        chance = random.Random(1)
        for table in (ONE, TWO, THREE):
            for _ in range(250):
                self.check(conditions(chance, table, 4), table)

    def test_asked_twice(self):
        condition = Condition("not a = 1 and name != k", ONE)
        told = [[condition((value,), name) for value in range(4) for name in NAMES] for _ in range(3)]
        self.assertEqual(told[0], told[1])
        self.assertEqual(told[0], told[2])
        self.assertEqual(condition.names(), ["k"])
        self.assertEqual(str(condition), "not a = 1 and name != k")

    def test_by_name(self):
        condition = Condition(table=ONE, text="a = 1 and name = k")
        self.assertIs(condition(name="k", values=(1,)), True)
        self.assertIs(condition((1,), name="k"), True)
        self.assertIs(condition(values=(1,)), False)
        self.assertEqual(list(inspect.signature(Condition).parameters), ["text", "table"])
        asked = inspect.signature(Condition.__call__).parameters
        self.assertEqual(list(asked)[1:], ["values", "name"])
        self.assertIsNone(asked["name"].default)

    def test_defined_where_the_document_says(self):
        self.assertEqual(Condition.__module__, "newestrow.conditions")
        for name in ("__init__", "__call__", "__eq__", "__and__", "__or__", "__invert__", "names", "__str__", "__repr__"):
            self.assertIn(name, vars(Condition))

    def test_two_conditions_share_nothing(self):
        one, other = Condition("a = 1", ONE), Condition("a = 2 or name = k", ONE)
        self.assertEqual((one((1,)), one((2,)), other((1,)), other((2,))), (True, False, False, True))
        self.assertEqual((one.names(), other.names()), ([], ["k"]))

    def test_a_list_of_columns_that_changes_later(self):
        columns = [("a", 1), ("b", 3)]
        condition = Condition("b = 3", Table(columns))
        columns[1] = ("c", 1)
        self.assertIs(condition((0, 3)), True)
        self.assertEqual(condition, Condition("b=3", Table([("a", 1), ("b", 3)])))


class WrittenTest(unittest.TestCase):
    def test_one_space_between_two_tokens(self):
        for text, expected in (
            ("true", "true"),
            ("a=1", "a = 1"),
            ("  a  =  1  ", "a = 1"),
            ("a!=1", "a != 1"),
            ("a<=b", "a <= b"),
            ("a>=b", "a >= b"),
            ("a<b", "a < b"),
            ("a>b", "a > b"),
            ("a+1-b=10", "a + 1 - b = 10"),
            ("(a=1)", "( a = 1 )"),
            ("not(a=1)", "not ( a = 1 )"),
            ("((a=1)and(b=2))or(true)", "( ( a = 1 ) and ( b = 2 ) ) or ( true )"),
            ("name=k", "name = k"),
            ("name!=name", "name != name"),
            ("a=1and b=2or true", "a = 1 and b = 2 or true"),
            ("1<a and 2>b", "1 < a and 2 > b"),
        ):
            with self.subTest(text=text):
                self.assertEqual(str(Condition(text, TWO)), expected)
                self.assertEqual(repr(Condition(text, TWO)), f"Condition({expected})")
                self.assertEqual(f"{Condition(text, TWO)}", expected)

    def test_the_example_of_the_document(self):
        self.assertEqual(repr(Condition("a=1 or name=k", ONE)), "Condition(a = 1 or name = k)")

    def test_digits_and_letters_need_no_space_between_them(self):
        self.assertEqual(holding("a=1or a=2", ONE), [(1,), (2,)])
        self.assertEqual(holding("1=a and true", ONE), [(1,)])
        self.assertEqual(holding("not a=1and(a<3)", ONE), [(0,), (2,)])
        self.assertEqual(holding("a+1=2", ONE), [(1,)])

    def test_any_spaces(self):
        chance = random.Random(2)
        for _ in range(200):
            text = conditions(chance, TWO, 3)
            tokens = split(text)
            spread = " " * chance.randrange(3)
            for token, behind in zip(tokens, [*tokens[1:], ""]):
                touching = (token[0].isalpha() and behind[:1].isalpha()) or (token[0].isdigit() and behind[:1].isdigit())
                spread += token + " " * (chance.randrange(1, 4) if touching else chance.randrange(3))
            condition = Condition(spread, TWO)
            self.assertEqual(str(condition), text)
            self.assertEqual(repr(condition), f"Condition({text})")
            for values in TWO.all_values():
                self.assertIs(condition(values, "k"), oracle(text, TWO)(values, "k"))

    def test_names(self):
        for text, expected in (
            ("true", []),
            ("a = 1 and b != 2", []),
            ("name = k", ["k"]),
            ("name != k", ["k"]),
            ("name = l or name = k", ["k", "l"]),
            ("name = k or name != k and name = k", ["k"]),
            ("name = zz or (name = b and not name != ab) or name = a", ["a", "ab", "b", "zz"]),
            ("name = k and false", ["k"]),
            ("name = k or true", ["k"]),
            ("name = name or name = true", ["name", "true"]),
            ("not name = b and not not name = a", ["a", "b"]),
            ("(name = c) or ((name = b)) or a = 1 and name = a", ["a", "b", "c"]),
        ):
            with self.subTest(text=text):
                found = Condition(text, TWO).names()
                self.assertIs(type(found), list)
                self.assertEqual(found, expected)

    def test_names_is_a_new_list_each_time(self):
        condition = Condition("name = l or name = k", ONE)
        found = condition.names()
        found.append("m")
        found[0] = "z"
        self.assertEqual(condition.names(), ["k", "l"])
        self.assertIs(condition((0,), "m"), False)
        self.assertIs(condition((0,), "k"), True)


class WrongTest(unittest.TestCase):
    def test_what_is_no_string(self):
        for text in (None, 0, 1, -1, 10 ** 29, True, False, [], ["true"], (), ("true",), ("a", "=", "1"), [[["true"]]],
                     Condition("true", ONE), ONE):
            with self.subTest(text=text), self.assertRaises(BadCondition) as context:
                Condition(text, ONE)
            self.assertEqual(context.exception.at, -1)
            self.assertIs(type(context.exception), BadCondition)

    def test_the_argument_stays(self):
        text = ["true"]
        with self.assertRaises(BadCondition):
            Condition(text, ONE)
        self.assertEqual(text, ["true"])

    def test_an_error_changes_nothing(self):
        before = Condition("a = 1", ONE)
        with self.assertRaises(BadCondition):
            Condition("a = 1 or", ONE)
        self.assertEqual([value for value in range(4) if before((value,))], [1])
        self.assertEqual(repr(ONE), "Table(a=3)")


if __name__ == "__main__":
    unittest.main()
