"""Two conditions: when they are equal, and how they are put together."""

import itertools
import random
import unittest

from newestrow.conditions import Condition
from newestrow.tables import Table

ONE = Table([("a", 2)])
TWO = Table([("a", 2), ("b", 1)])
NAMES = [None, "k", "l", "m", "unheard"]
TEXTS = [
    "true", "false", "a = 1", "a != 1", "a < 2", "a + b = 2", "not a = 1", "name = k", "name != k", "name = l and a = 1",
    "name = k or name = l", "a = 0 or b = 1 and name != l", "( a = 0 or b = 1 ) and name != l", "0 = 1", "b >= 0",
    "name = k and name = l", "not ( name = l or name = m )",
]


def facts(condition, table, names=NAMES):
    """Return for which values and names a condition holds."""
    return [condition(values, name) for values in table.all_values() for name in names]


class EqualTest(unittest.TestCase):
    def alike(self, one, other, table=TWO):
        self.assertIs(Condition(one, table) == Condition(other, table), True, (one, other))
        self.assertIs(Condition(other, table) == Condition(one, table), True, (one, other))
        self.assertIs(Condition(one, table) != Condition(other, table), False, (one, other))

    def unlike(self, one, other, table=TWO):
        self.assertIs(Condition(one, table) == Condition(other, table), False, (one, other))
        self.assertIs(Condition(other, table) == Condition(one, table), False, (one, other))
        self.assertIs(Condition(one, table) != Condition(other, table), True, (one, other))

    def test_written_alike(self):
        for text in TEXTS:
            self.alike(text, text)
            self.alike(text, text.replace(" = ", "=") + "  ")

    def test_written_differently(self):
        self.alike("a = 1", "not a != 1")
        self.alike("a = 1", "1 = a")
        self.alike("a < 2", "a <= 1")
        self.alike("a < 2", "not a = 2")
        self.alike("a = 0 or a = 1", "a < 2")
        self.alike("a + b = 3", "a = 2 and b = 1")
        self.alike("true", "a >= 0")
        self.alike("true", "a <= 2")
        self.alike("true", "0 = 0")
        self.alike("false", "a > 2")
        self.alike("false", "b = 999")
        self.alike("not ( a = 1 or b = 1 )", "not a = 1 and not b = 1")
        self.alike("name != k", "not name = k")
        self.alike("name = k or name = l", "name = l or name = k")
        self.alike("name = k and a = 1 or name = k and a != 1", "name = k")

    def test_different_values(self):
        self.unlike("a = 1", "a = 2")
        self.unlike("a = 1", "a != 1")
        self.unlike("true", "false")
        self.unlike("true", "a > 0")
        self.unlike("true", "a < 2")
        self.unlike("false", "a = 0 and b = 0")
        self.unlike("false", "a = 2 and b = 1")
        self.unlike("a = 1", "a = 1 and b = 0")
        self.unlike("a = 1 and true", "a = 1 or true")

    def test_a_name_that_one_mentions(self):
        self.unlike("name = k", "false")
        self.unlike("name != k", "true")
        self.unlike("a = 1 or name = k", "a = 1")
        self.unlike("a = 1 and name != k", "a = 1")
        self.unlike("name = k and a = 2", "false")
        self.unlike("name = k", "name = l")
        self.unlike("name != k", "name != l")
        self.unlike("name = k or name = l", "name = k")
        self.unlike("name = k or name = l", "name = l")
        self.unlike("name != k and name != l", "name != k")

    def test_a_name_that_does_not_matter(self):
        self.alike("name = k and name = l", "false")
        self.alike("name != k or name != l", "true")
        self.alike("name = k or name != k", "true")
        self.alike("name = k and name != k", "false")
        self.alike("name = k and false", "false")
        self.alike("name = k and false", "name = l and false")
        self.alike("name != l or true", "true")
        self.alike("name = k and name != l", "name = k")
        self.alike("name != l or name = k", "name != l")
        self.alike("a = 1 or name = k and a = 1", "a = 1")

    def test_only_for_no_name_and_names_that_neither_mentions(self):
        self.unlike("name = k or name = l", "true")
        self.unlike("name = k or name = l", "name = k or name = l or name != k and name != l")
        self.unlike("name != k and name != l", "false")
        self.unlike("name = k", "name = k or name != l and name != k")
        self.unlike("name = k or name != k and a = 1", "name = k or name != k and a = 2")
        self.unlike("name = k and name = l", "name != k and name != l")

    def test_tables(self):
        same = Table([("a", 2), ("b", 1)])
        self.assertEqual(Condition("a = 1", TWO), Condition("a = 1", same))
        self.assertEqual(Condition("a = 1", TWO), Condition("not a != 1", same))
        self.assertIs(Condition("a = 1", TWO) != Condition("a = 1", same), False)
        for columns in ([("a", 2)], [("a", 2), ("b", 2)], [("a", 1), ("b", 1)], [("b", 1), ("a", 2)],
                        [("a", 2), ("c", 1)], [("b", 2), ("a", 1)], [("a", 2), ("b", 1), ("c", 1)]):
            other = Table(columns)
            for text in ("a = 1", "true", "false", "name = k"):
                self.assertIs(Condition(text, TWO) == Condition(text, other), False)
                self.assertIs(Condition(text, other) != Condition(text, TWO), True)

    def test_equal_to_nothing_of_another_class(self):
        class Agreeing:
            def __eq__(self, other):
                return True

        condition = Condition("true", ONE)
        for thing in (None, True, 1, 0, "true", "Condition(true)", (), [], ONE, Condition, Agreeing()):
            self.assertIs(condition == thing, False)
            self.assertIs(condition != thing, True)

    def test_every_pair(self):
        for one, other in itertools.product(TEXTS, repeat=2):
            first, second = Condition(one, TWO), Condition(other, TWO)
            self.assertIs(first == second, facts(first, TWO) == facts(second, TWO), (one, other))
            self.assertIs(first != second, facts(first, TWO) != facts(second, TWO), (one, other))


class TogetherTest(unittest.TestCase):
    def test_texts(self):
        one, other = Condition("a=1", TWO), Condition("not(b=0)or name=k", TWO)
        self.assertEqual(str(one & other), "( a = 1 ) and ( not ( b = 0 ) or name = k )")
        self.assertEqual(str(one | other), "( a = 1 ) or ( not ( b = 0 ) or name = k )")
        self.assertEqual(str(~other), "not ( not ( b = 0 ) or name = k )")
        self.assertEqual(repr(one & one), "Condition(( a = 1 ) and ( a = 1 ))")
        self.assertEqual(repr(one | one), "Condition(( a = 1 ) or ( a = 1 ))")
        self.assertEqual(repr(~one), "Condition(not ( a = 1 ))")
        self.assertEqual(str(~~one), "not ( not ( a = 1 ) )")

    def test_names(self):
        one, other = Condition("name = l or name = k", TWO), Condition("name != m or name = k", TWO)
        none = Condition("a = 1", TWO)
        for made, expected in (
            (one & other, ["k", "l", "m"]), (other & one, ["k", "l", "m"]), (one | other, ["k", "l", "m"]),
            (~one, ["k", "l"]), (~none, []), (none & none, []), (none | other, ["k", "m"]), (none & one, ["k", "l"]),
            (one & Condition("false", TWO), ["k", "l"]), (Condition("true", TWO) | other, ["k", "m"]),
        ):
            found = made.names()
            self.assertEqual(found, expected)
            found.append("z")
            found.reverse()
            self.assertEqual(made.names(), expected)

    def test_every_pair(self):
        for one, other in itertools.product(TEXTS, repeat=2):
            first, second = Condition(one, TWO), Condition(other, TWO)
            for values, name in itertools.product(TWO.all_values(), NAMES):
                told = first(values, name), second(values, name)
                self.assertIs((first & second)(values, name), told[0] and told[1], (one, other, values, name))
                self.assertIs((first | second)(values, name), told[0] or told[1], (one, other, values, name))
                self.assertIs((~first)(values, name), not told[0], (one, values, name))

    def test_what_is_made_is_a_condition(self):
        one, other = Condition("a = 1", TWO), Condition("name = k", TWO)
        for made in (one & other, one | other, ~one):
            self.assertIs(type(made), Condition)
            self.assertEqual(made, Condition(str(made), TWO))
            self.assertEqual(Condition(str(made), TWO), made)
            self.assertNotEqual(made, Condition(str(made), Table([("a", 2), ("b", 3)])))
            self.assertNotEqual(made, str(made))

    def test_the_conditions_stay(self):
        one, other = Condition("a = 1", TWO), Condition("name = k and b = 1", TWO)
        before = [(facts(c, TWO), str(c), repr(c), c.names()) for c in (one, other)]
        for _ in range(2):
            self.assertEqual(facts(one & other, TWO), facts(one & other, TWO))
            self.assertEqual(facts(one | other, TWO), facts(one | other, TWO))
            self.assertEqual(facts(~other, TWO), facts(~other, TWO))
        self.assertEqual([(facts(c, TWO), str(c), repr(c), c.names()) for c in (one, other)], before)
        self.assertEqual(one, Condition("a = 1", TWO))

    def test_equal_ones(self):
        one, other = Condition("a = 1", TWO), Condition("name = k", TWO)
        self.assertEqual(~~one, one)
        self.assertEqual(one & other, other & one)
        self.assertEqual(~(one & other), ~one | ~other)
        self.assertEqual(~(one | other), ~one & ~other)
        self.assertEqual(one & ~one, Condition("false", TWO))
        self.assertEqual(other | ~other, Condition("true", TWO))
        self.assertNotEqual(one, ~one)
        self.assertNotEqual(one & other, one)
        self.assertNotEqual(one | other, one)
        self.assertNotEqual(~other, Condition("true", TWO))

    def test_equal_tables(self):
        same = Table([("a", 2), ("b", 1)])
        both = Condition("a = 1", TWO) & Condition("b = 1", same)
        self.assertEqual(facts(both, TWO), facts(Condition("a = 1 and b = 1", TWO), TWO))
        self.assertEqual(both, Condition("a = 1 and b = 1", same))

    def test_put_together_from_others_that_were(self):
        chance = random.Random(3)
        rows = [(values, name) for values in TWO.all_values() for name in NAMES]
        made = [(Condition(text, TWO), [Condition(text, TWO)(*row) for row in rows], str(Condition(text, TWO)))
                for text in TEXTS]
        for _ in range(300):
            (one, held, text), (other, also, more) = chance.choice(made), chance.choice(made)
            if len(text) + len(more) > 3000:
                continue
            made += [
                (one & other, [x and y for x, y in zip(held, also)], f"( {text} ) and ( {more} )"),
                (one | other, [x or y for x, y in zip(held, also)], f"( {text} ) or ( {more} )"),
                (~one, [not x for x in held], f"not ( {text} )"),
            ]
        self.assertGreater(max(len(text) for _, _, text in made), 300)
        for condition, held, text in made:
            self.assertEqual([condition(*row) for row in rows], held, text)
            self.assertEqual(str(condition), text)
            self.assertEqual(repr(condition), f"Condition({text})")
            self.assertEqual(condition.names(), [name for name in ["k", "l", "m"] if f"= {name}" in text])
        for (one, held, _), (other, also, _) in zip(made, reversed(made)):
            self.assertIs(one == other, held == also)

    def test_put_together_many_times(self):
        made = Condition("a = 1", TWO)
        for _ in range(150):
            made = ~made
        self.assertEqual(made, Condition("a = 1", TWO))
        self.assertEqual(str(made), "not ( " * 150 + "a = 1" + " )" * 150)
        for _ in range(50):
            made = made & Condition("name != k", TWO)
        self.assertEqual(made, Condition("a = 1 and name != k", TWO))
        for _ in range(50):
            made = Condition("b = 1", TWO) | made
        self.assertEqual(made, Condition("a = 1 and name != k or b = 1", TWO))
        self.assertEqual(made.names(), ["k"])
        self.assertIs(made((1, 0), "k"), False)
        self.assertIs(made((1, 0), "l"), True)


if __name__ == "__main__":
    unittest.main()
