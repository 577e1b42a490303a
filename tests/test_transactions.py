"""Transactions: their statements, their ends and levels, and which lists of statements are none."""

import itertools
import unittest

from newestrow.errors import BadTransaction, TooMany
from newestrow.mixes import Transaction
from newestrow.statements import Statement
from newestrow.tables import Table
from building import ANY

TABLE = Table([("a", 2)])


def listed(*texts):
    """Return a list of statements."""
    return [Statement(text, TABLE) for text in texts]


def bad_at(statements, **more):
    """Return the field of BadTransaction or TooMany that is raised, None if nothing is."""
    try:
        Transaction(statements, **more)
    except BadTransaction as wrong:
        return wrong.at
    except TooMany as wrong:
        return wrong.what
    return None


class TransactionTest(unittest.TestCase):
    def test_statements(self):
        for many in range(1, 7):
            statements = listed(*["look", "mark", "change a = 1", "back", "table", "look"][:many])
            transaction = Transaction(statements)
            self.assertIsInstance(transaction.statements, tuple)
            self.assertEqual(transaction.statements, tuple(statements))

    def test_ends_and_level(self):
        transaction = Transaction(listed("look"))
        self.assertEqual((transaction.ends, transaction.level), ("commit", "committed"))
        for ends, level in itertools.product(["commit", "undo"], ["committed", "repeatable"]):
            transaction = Transaction(listed("look"), ends=ends, level=level)
            self.assertEqual((transaction.ends, transaction.level), (ends, level))
        self.assertEqual(Transaction(listed("look"), ends="undo").level, "committed")
        self.assertEqual(Transaction(listed("look"), level="repeatable").ends, "commit")

    def test_parameters(self):
        self.assertEqual(len(Transaction(statements=listed("look"), level="committed", ends="undo")), 2)
        with self.assertRaises(TypeError):
            Transaction(listed("look"), "commit")

    def test_len(self):
        self.assertEqual(len(Transaction(listed("look"))), 2)
        self.assertEqual(len(Transaction(listed("mark"))), 1)
        self.assertEqual(len(Transaction(listed("mark", "mark", "mark"), ends="undo")), 1)
        self.assertEqual(len(Transaction(listed("mark", "look", "back", "mark", "table", "back"))), 5)
        self.assertEqual(len(Transaction(listed(*["look"] * 6))), 7)

    def test_a_list_that_is_changed_later(self):
        statements = listed("look", "mark", "change a = 1")
        transaction = Transaction(statements)
        statements.append(Statement("back", TABLE))
        statements[0] = Statement("remove", TABLE)
        self.assertEqual([str(statement) for statement in transaction.statements], ["look", "mark", "change a = 1"])
        self.assertEqual(len(transaction), 3)
        statements.clear()
        self.assertEqual(len(transaction), 3)

    def test_the_list_stays_as_it_is(self):
        statements = listed("look", "mark", "back")
        before = list(statements)
        Transaction(statements)
        self.assertEqual(statements, before)

    def test_another_class(self):
        transaction = Transaction(listed("look"))
        for other in [*ANY, transaction.statements, object()]:
            self.assertIs(transaction == other, False)
            self.assertIs(transaction != other, True)


class WrongTest(unittest.TestCase):
    def test_too_many_statements(self):
        for word in ("look", "mark"):
            for many in range(1, 7):
                self.assertIsNone(bad_at(listed(*[word] * many)))
            for many in (7, 8, 20):
                self.assertEqual(bad_at(listed(*[word] * many)), "statements")

    def test_no_statements(self):
        self.assertEqual(bad_at([]), -1)
        self.assertEqual(bad_at([], ends="undo", level="repeatable"), -1)

    def test_wrong_ends(self):
        for thing in [*ANY, "committed", "Commit", "undo ", "back", ("commit",), ["commit"]]:
            if thing not in ("commit", "undo"):
                with self.subTest(thing=thing):
                    self.assertEqual(bad_at(listed("look"), ends=thing), -1)

    def test_wrong_level(self):
        for thing in [*ANY, "commit", "undo", "Repeatable", "repeatable ", ("committed",), ["repeatable"]]:
            with self.subTest(thing=thing):
                self.assertEqual(bad_at(listed("look"), level=thing), -1)

    def test_back_without_mark(self):
        self.assertEqual(bad_at(listed("back")), 0)
        self.assertEqual(bad_at(listed("back", "mark")), 0)
        self.assertEqual(bad_at(listed("back", "back")), 0)
        self.assertEqual(bad_at(listed("look", "change a = 1", "back", "mark", "back")), 2)
        self.assertEqual(bad_at(listed("table", "back", "back")), 1)
        self.assertEqual(bad_at(listed("look", "look", "look", "look", "look", "back")), 5)

    def test_back_behind_mark(self):
        self.assertIsNone(bad_at(listed("mark", "back")))
        self.assertIsNone(bad_at(listed("mark", "back", "back")))
        self.assertIsNone(bad_at(listed("look", "mark", "look", "back", "look", "back")))
        self.assertIsNone(bad_at(listed("mark", "mark", "back", "back", "back")))

    def test_several_errors(self):
        self.assertEqual(bad_at(listed(*["back"] * 7)), "statements")
        self.assertEqual(bad_at(listed(*["look"] * 7), ends="no"), "statements")
        self.assertEqual(bad_at(listed(*["look"] * 7), level=None), "statements")
        self.assertEqual(bad_at(listed("look", "back"), ends="no"), -1)
        self.assertEqual(bad_at(listed("look", "back"), level="no"), -1)
        self.assertEqual(bad_at([], ends="no", level="no"), -1)


if __name__ == "__main__":
    unittest.main()
