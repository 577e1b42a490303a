"""Orders by transactions and by statements."""

import itertools
import unittest

from newestrow.errors import TooMany
from newestrow.weavings import orders
from building import mix_of

SESSIONS = [
    ("look / commit",),
    ("look / undo",),
    ("mark / commit",),
    ("look / commit", "look / commit"),
    ("look / commit / sole / commit", "share / look / commit"),
    ("look / commit / sole / undo / remove / commit", "share / mark / look / back / commit", "table / commit"),
    ("mark / look / back / look / undo / table / look / commit", "mark / share / share / commit"),
    ("look / undo", "mark / sole / back / undo"),
    ("look / commit", "look / commit", "look / commit", "look / commit"),
    ("begin repeatable / put k (1) / look / commit", "put k (0) or change a = 1 / undo / look / commit"),
]


def all_orders(things):
    """Return all arrangements in which things of one session stand ascending, found by trying all."""
    found = []
    for order in itertools.permutations(things):
        own = [[thing for thing in order if thing[0] == session] for session in range(4)]
        if all(part == sorted(part) for part in own):
            found.append(order)
    return sorted(found)


class OrdersTest(unittest.TestCase):
    def test_by_transactions(self):
        for sessions in SESSIONS:
            mix = mix_of("a=1", *sessions)
            things = [(session, at) for session, at in mix.transactions() if mix.sessions[session][at].ends == "commit"]
            self.assertEqual(orders(mix, by="transactions"), all_orders(things), sessions)
            self.assertEqual(orders(mix), all_orders(things), sessions)

    def test_by_statements(self):
        for sessions in SESSIONS:
            mix = mix_of("a=1", *sessions)
            self.assertEqual(orders(mix, by="statements"), all_orders(mix.units()), sessions)

    def test_some_of_them(self):
        mix = mix_of("a=1", "look / commit / sole / undo / mark / commit", "share / mark / remove / back / commit")
        self.assertEqual(orders(mix), [((0, 0), (0, 2), (1, 0)), ((0, 0), (1, 0), (0, 2)), ((1, 0), (0, 0), (0, 2))])
        self.assertEqual(orders(mix, by="statements"), [((0, 0, 0), (1, 0, 0)), ((1, 0, 0), (0, 0, 0))])

    def test_nothing_to_arrange(self):
        self.assertEqual(orders(mix_of("a=1", "look / undo", "look / undo")), [()])
        self.assertEqual(orders(mix_of("a=1", "look / undo", "look / undo"), by="statements"), [()])
        self.assertEqual(orders(mix_of("a=1", "table / commit", "mark / commit"), by="statements"), [()])
        self.assertEqual(orders(mix_of("a=1", "table / commit", "mark / undo")), [((0, 0),)])

    def test_kinds_of_values(self):
        for by in ("transactions", "statements"):
            found = orders(mix_of("a=1", "look / commit", "look / commit"), by=by)
            self.assertIsInstance(found, list)
            for order in found:
                self.assertIsInstance(order, tuple)
                for thing in order:
                    self.assertIsInstance(thing, tuple)

    def test_new_and_by_name(self):
        mix = mix_of("a=1", "look / commit", "look / commit")
        orders(mix).clear()
        self.assertEqual(len(orders(mix=mix)), 2)
        with self.assertRaises(TypeError):
            orders(mix, "statements")


class TooManyTest(unittest.TestCase):
    def check(self, many, by, *sessions):
        mix = mix_of("a=1", *sessions)
        if many is not None:
            self.assertEqual(len(orders(mix, by=by)), many)
            return
        with self.assertRaises(TooMany) as caught:
            orders(mix, by=by)
        self.assertEqual(caught.exception.what, "orders")

    def test_by_statements(self):
        self.check(252, "statements", "look / look / look / look / look / commit", "look / look / look / look / look / commit")
        self.check(504, "statements", "look / look / look / look / look / commit", "look / look / look / commit", "look / commit")
        self.check(560, "statements", "look / look / look / commit", "look / look / look / commit", "look / look / commit")
        self.check(None, "statements", *["look / look / commit"] * 4)
        self.check(840, "statements", "look / look / look / look / commit", "look / look / commit", "look / commit", "look / commit")
        self.check(None, "statements", "look / look / look / commit", "look / look / look / commit", "look / commit", "look / commit")
        self.check(420, "statements", "look / look / look / commit", "look / look / commit", "look / commit", "look / commit")

    def test_by_transactions(self):
        self.check(90, "transactions", *["mark / commit / mark / commit"] * 3)
        self.check(None, "transactions", *["mark / commit / mark / commit"] * 4)
        self.check(630, "transactions", *["mark / commit / mark / commit"] * 3, "mark / commit")
        self.check(None, "transactions", *["mark / commit / mark / commit / mark / commit"] * 3)
        self.check(90, "transactions", *["mark / commit / mark / undo / mark / commit"] * 3)

    def test_only_what_is_asked_for_counts(self):
        sessions = ["look / look / commit"] * 4
        self.check(24, "transactions", *sessions)
        self.check(None, "statements", *sessions)
        sessions = ["mark / commit / mark / commit"] * 4
        self.check(None, "transactions", *sessions)
        self.check(1, "statements", *sessions)


if __name__ == "__main__":
    unittest.main()
