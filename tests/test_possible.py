"""Which weavings are possible: what is blocked by transactions that are busy or own the table."""

import itertools
import unittest

from newestrow.errors import BadWeaving, NotPossible
from newestrow.weavings import Weavings, check_possible, position_of
from building import mix_of

HOLDING = ["share", "sole", "change a = 1", "remove", "put k (1)", "put k (1) or nothing", "put k (1) or change a = 1",
           "share where false", "sole where false", "change a = 1 where false", "remove where false"]
FREE = ["look", "mark / look", "look where false"]


def blocked_at(mix, weaving):
    """Return what NotPossible tells, None if the weaving is possible."""
    try:
        found = check_possible(mix, weaving)
    except NotPossible as wrong:
        return wrong.at
    assert found is None
    return None


def wanted_at(mix, weaving):
    """Return the first blocked position, found from the words of the document for each event by itself."""
    positions = position_of(mix, weaving)
    five = ("share", "sole", "change", "remove", "put")

    def since(transaction, words):
        session, at = transaction
        found = [positions[(session, at, index)] for index, statement in enumerate(mix.sessions[session][at].statements)
                 if statement.word in words]
        return min(found, default=None)

    def holds_at(transaction, words, position):
        begin = since(transaction, words)
        return begin is not None and begin < position < positions[(*transaction, -1)]

    for position in range(len(weaving)):
        session, at, index = [event for event in positions if positions[event] == position][0]
        if index == -1:
            continue
        word = mix.sessions[session][at].statements[index].word
        others = [transaction for transaction in mix.transactions() if transaction != (session, at)]
        owned = any(holds_at(other, ("table",), position) for other in others)
        busy = any(holds_at(other, five, position) for other in others)
        if word in five and owned or word == "table" and (owned or busy):
            return position
    return None


class BlockedTest(unittest.TestCase):
    def check(self, at, weaving, *sessions):
        with self.subTest(weaving=weaving, sessions=sessions):
            self.assertEqual(blocked_at(mix_of("a=1", *sessions), weaving), at)

    def test_a_statement_that_holds_while_the_table_is_owned(self):
        for text in HOLDING:
            for end in ("commit", "undo"):
                self.check(1, (0, 1, 0, 1), f"table / {end}", f"{text} / commit")
                self.check(1, (0, 1, 0, 1), f"begin repeatable / table / {end}", f"{text} / undo")
                self.check(None, (0, 0, 1, 1), f"table / {end}", f"{text} / commit")
                self.check(None, (1, 1, 0, 0), f"table / {end}", f"{text} / commit")

    def test_the_table_while_another_transaction_is_busy(self):
        for text in HOLDING:
            for end in ("commit", "undo"):
                self.check(1, (1, 0, 0, 1), "table / commit", f"{text} / {end}")
                self.check(1, (1, 0, 1, 0), "table / undo", f"{text} / {end}")
                self.check(None, (1, 1, 0, 0), "table / commit", f"{text} / {end}")

    def test_the_table_while_the_table_is_owned(self):
        self.check(1, (0, 1, 0, 1), "table / commit", "table / commit")
        self.check(1, (1, 0, 0, 1), "table / commit", "table / undo")
        self.check(None, (1, 1, 0, 0), "table / commit", "table / commit")

    def test_what_is_never_blocked(self):
        for text in FREE:
            for weaving in Weavings(mix_of("a=1", "table / commit", f"{text} / commit")).each():
                self.check(None, weaving, "table / commit", f"{text} / commit")
        for weaving in Weavings(mix_of("a=1", "table / commit", "mark / look / back / undo")).each():
            self.check(None, weaving, "table / commit", "mark / look / back / undo")
        for one, other in itertools.product(HOLDING[:5], repeat=2):
            self.check(None, (0, 1, 0, 1), f"{one} / commit", f"{other} / commit")

    def test_from_the_first_one_to_the_end(self):
        sessions = ("look / sole / look / commit", "look / table / commit")
        self.check(None, (0, 1, 1, 1, 0, 0, 0), *sessions)
        self.check(3, (0, 0, 1, 1, 0, 0, 1), *sessions)
        self.check(4, (0, 0, 0, 1, 1, 0, 1), *sessions)
        self.check(None, (0, 0, 0, 1, 0, 1, 1), *sessions)
        self.check(2, (1, 1, 0, 0, 1, 0, 0), "sole / sole / look / commit", *sessions[1:])
        self.check(3, (1, 1, 0, 0, 1, 0, 0), *sessions)
        self.check(None, (1, 1, 0, 1, 0, 0, 0), *sessions)

    def test_behind_a_back(self):
        busy = "mark / share / back / look / commit"
        self.check(1, (0, 1, 0, 0, 0, 1), busy, "table / commit")
        self.check(2, (0, 0, 1, 0, 0, 1), busy, "table / commit")
        self.check(3, (0, 0, 0, 1, 0, 1), busy, "table / commit")
        self.check(None, (0, 0, 0, 0, 1, 1), busy, "table / commit")
        owner = "mark / table / back / look / commit"
        for word in ("share", "table", "put k (1)"):
            self.check(1, (0, 1, 0, 0, 0, 1), owner, f"{word} / commit")
            self.check(2, (0, 0, 1, 0, 0, 1), owner, f"{word} / commit")
            self.check(3, (0, 0, 0, 1, 0, 1), owner, f"{word} / commit")
            self.check(None, (0, 0, 0, 0, 1, 1), owner, f"{word} / commit")

    def test_in_one_session(self):
        self.check(None, (0,) * 8, "table / table / sole / commit / table / share / table / undo")
        self.check(None, (0,) * 6, "sole / table / commit / share / table / commit")
        self.check(None, (0,) * 4, "table / undo / remove / undo")

    def test_the_own_table_and_the_own_holds_do_not_block(self):
        self.check(None, (0, 0, 1, 0, 1), "table / change a = 1 / commit", "look / commit")
        self.check(None, (0, 0, 1, 0, 1), "change a = 1 / table / commit", "look / commit")
        self.check(3, (0, 0, 0, 1, 0, 1), "change a = 1 / table / look / commit", "sole / commit")

    def test_the_next_transaction_of_the_session(self):
        self.check(None, (0, 0, 1, 1, 0, 0), "table / commit / look / commit", "sole / commit")
        self.check(None, (0, 0, 1, 0, 1, 0), "table / commit / look / commit", "sole / commit")
        self.check(3, (0, 0, 1, 0, 1, 0), "table / commit / table / commit", "sole / commit")
        self.check(4, (0, 0, 1, 0, 1, 0, 1), "sole / commit / share / commit", "look / table / commit")

    def test_the_first_of_several(self):
        self.check(1, (0, 1, 2, 0, 1, 2), "table / commit", "sole / commit", "share / commit")
        self.check(2, (0, 1, 2, 0, 1, 2), "table / commit", "look / commit", "share / commit")
        self.check(2, (0, 1, 2, 1, 0, 2), "sole / commit", "share / commit", "table / commit")
        self.check(3, (0, 1, 1, 2, 0, 2), "sole / commit", "share / commit", "table / commit")

    def test_all_weavings_against_the_words(self):
        for sessions in (
            ("mark / sole / back / commit / table / undo", "look / table / commit"),
            ("table / sole / commit", "share / table / undo", "look / commit"),
            ("put k (1) / commit / table / commit", "mark / table / mark / back / look / undo"),
            ("begin repeatable / look / change a = 1 where false / commit", "table / commit / table / commit"),
            ("share / commit", "sole / undo", "table / commit", "mark / undo"),
        ):
            mix = mix_of("a=1", *sessions)
            found = []
            for weaving in Weavings(mix).each():
                self.assertEqual(blocked_at(mix, weaving), wanted_at(mix, weaving), (sessions, weaving))
                found.append(blocked_at(mix, weaving))
            self.assertIn(None, found)
            self.assertGreater(len(set(found)), 2)

    def test_a_weaving_that_is_none(self):
        mix = mix_of("a=1", "table / commit", "sole / commit")
        with self.assertRaises(BadWeaving) as caught:
            check_possible(mix, (0, 1, 0, 0))
        self.assertEqual(caught.exception.at, 3)
        self.assertIsNone(check_possible(weaving=(0, 0, 1, 1), mix=mix))


if __name__ == "__main__":
    unittest.main()
