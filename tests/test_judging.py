"""Verdicts, compared with what results of small databases say."""

import itertools
import random
import unittest

from newestrow.errors import TooMany
from newestrow.judging import Verdict, judge
from newestrow.looker import is_certificate
from newestrow.results import serial_result
from newestrow.weavings import Weavings, check_possible, orders
from building import ANY, lively_mix, mix_of, result_or_none

EXAMPLE = mix_of("a=2", "change a = a + 1 where a = 0 / commit", "change a = 0 where a = 1 / commit")
SAFE = mix_of("a=2", "look / commit", "look / commit")
READINGS = [(by, returns) for by in ("transactions", "statements") for returns in (True, False)]


def seen(found, returns):
    """Return what of a result has to be explained."""
    return (found.rows, found.returned) if returns else found.rows


def small_databases(mix, most):
    """Give all databases with so many rows at most, each row of another kind, by the number of rows."""
    kinds = [kind for kind in mix.kinds() if kind[1] is not None]
    for many in range(most + 1):
        for rows in itertools.combinations(kinds, many):
            names = [name for name, _ in rows if name is not None]
            if len(set(names)) == len(names):
                yield rows


def fewest_unexplained(mix, by, returns, most):
    """Return the number of rows of the smallest database that shows that the mix is not safe, None if none does."""
    for database in small_databases(mix, most):
        explained = [seen(serial_result(mix, order, database), returns) for order in orders(mix, by=by)]
        for weaving in Weavings(mix).each():
            found = result_or_none(mix, weaving, database)
            if found is not None and seen(found, returns) not in explained:
                return len(database)
    return None


class JudgeTest(unittest.TestCase):
    def test_example_of_the_document(self):
        verdict = judge(EXAMPLE)
        self.assertIsInstance(verdict, Verdict)
        self.assertFalse(verdict)
        self.assertIs(bool(verdict), False)
        self.assertEqual(len(verdict), 2)
        self.assertEqual(verdict.certificate, ("unsafe", (0, 1, 0, 1), ((None, (0,)), (None, (1,)))))
        self.assertIsInstance(verdict.certificate, tuple)

    def test_a_safe_mix(self):
        verdict = judge(SAFE)
        self.assertTrue(verdict)
        self.assertIs(bool(verdict), True)
        self.assertEqual(len(verdict), 0)
        word, rows = verdict.certificate
        self.assertEqual(word, "safe")
        self.assertEqual([weaving for weaving, _ in rows], list(Weavings(SAFE).each()))
        for _, explaining in rows:
            self.assertTrue(set(explaining) <= set(orders(SAFE)))
            self.assertEqual(len(explaining), 1)

    def test_only_possible_weavings_are_judged(self):
        mix = mix_of("a=2", "table / change a = a + 1 where a = 0 / commit", "table / change a = 0 where a = 1 / commit")
        verdict = judge(mix)
        self.assertTrue(verdict)
        self.assertEqual([weaving for weaving, _ in verdict.certificate[1]], [(0, 0, 0, 1, 1, 1), (1, 1, 1, 0, 0, 0)])
        self.assertEqual([explaining for _, explaining in verdict.certificate[1]], [(((0, 0), (1, 0)),), (((1, 0), (0, 0)),)])

    def test_orders_by_statements(self):
        mix = mix_of("a=2", "look where a = 0 / look where a = 1 / commit", "change a = 1 where a = 0 / commit")
        self.assertFalse(judge(mix))
        verdict = judge(mix, by="statements")
        self.assertTrue(verdict)
        self.assertTrue(all(len(order) == 3 for _, explaining in verdict.certificate[1] for order in explaining))
        self.assertTrue(judge(mix, returns=False))
        self.assertTrue(judge(mix_of("a=2", "begin repeatable / look where a = 0 / look where a = 1 / commit",
                                     "change a = 1 where a = 0 / commit")))

    def test_a_database_without_rows_can_show_it(self):
        mix = mix_of("a=1", "look where name = k / look where name = k / commit", "put k (0) / commit")
        verdict = judge(mix)
        self.assertEqual((bool(verdict), len(verdict), verdict.certificate[2]), (False, 0, ()))
        self.assertTrue(is_certificate(mix, verdict.certificate))

    def test_a_name_of_which_all_kinds_bar(self):
        mix = mix_of("a=1", "put k (0) / look / commit", "put k (1) / look / commit")
        verdict = judge(mix)
        for weaving, explaining in verdict.certificate[1]:
            bars = all(result_or_none(mix, weaving, database) is None for database in ((), (("k", (0,)),), (("k", (1,)),)))
            self.assertEqual(explaining == (), bars)
        self.assertIn((), [explaining for _, explaining in verdict.certificate[1]])

    def test_one_order_for_each_choice(self):
        # The order that explains k without a row is not the one that explains k with a row.
        mix = mix_of("a=1", "look where name = k / commit", "put k (0) or change a = 0 / look / commit")
        verdict = judge(mix, by="statements")
        self.assertTrue(verdict)
        self.assertTrue(is_certificate(mix, verdict.certificate, by="statements"))

    def test_three_rows_are_needed(self):
        mix = mix_of("a=2", "look where a = 0 / commit", "change a = 1 where a = 0 / commit / change a = 2 where a = 0 / commit")
        for by, returns in READINGS:
            self.check(mix, by, returns, 3)
        mix = mix_of("a=3", "change a = 1 where a = 0 / commit", "change a = 2 where a = 1 / commit", "change a = 0 where a = 2 / commit")
        self.assertEqual(len(judge(mix, returns=False)), fewest_unexplained(mix, "transactions", False, 3))
        self.assertEqual(len(judge(mix)), fewest_unexplained(mix, "transactions", True, 3))

    def check(self, mix, by, returns, most):
        """Compare the verdict with results; return it."""
        verdict = judge(mix, by=by, returns=returns)
        fewest = fewest_unexplained(mix, by, returns, most)
        with self.subTest(mix=str(mix), by=by, returns=returns):
            if bool(verdict):
                self.assertIsNone(fewest)
                self.assertEqual(len(verdict), 0)
            elif len(verdict) <= most:
                self.assertEqual(len(verdict), fewest)
            else:
                self.assertIsNone(fewest)
            if not verdict:
                self.check_unsafe(mix, verdict, by, returns)
            self.assertTrue(is_certificate(mix, verdict.certificate, by=by, returns=returns))
        return verdict

    def check_unsafe(self, mix, verdict, by, returns):
        word, weaving, database = verdict.certificate
        self.assertEqual(word, "unsafe")
        self.assertEqual(len(verdict), len(database))
        check_possible(mix, weaving)
        found = seen(result_or_none(mix, weaving, database), returns)
        self.assertNotIn(found, [seen(serial_result(mix, order, database), returns) for order in orders(mix, by=by)])

    def test_all_words(self):
        for sessions in (
            ("look / look / commit", "remove / commit"),
            ("share where a = 0 / look / commit", "change a = 1 where a = 0 / commit"),
            ("sole where a = 0 / look / commit", "put k (0) or change a = 1 / commit"),
            ("mark / change a = 1 / back / look / commit", "change a = a + 1 where a < 2 / commit"),
            ("begin repeatable / look / change a = 1 where a = 0 / commit", "change a = 1 where a = 0 / commit"),
            ("put k (0) / remove where name = k / commit", "put k (1) or nothing / commit"),
            ("put k (0) / commit", "put j (1) / commit", "look / look / commit"),
            ("table / look / look / commit", "change a = 0 where a = 1 / commit / change a = 1 where a = 2 / commit"),
            ("remove where a = 1 / undo", "look / look / commit", "change a = 1 where a = 0 / undo"),
            ("change a = a + 1 where a = 0 / commit", "change a = a + 1 where a = 1 / commit", "look where a = 1 / commit"),
            ("look where name = k / look where name = j / commit", "put k (0) / put j (0) / commit"),
        ):
            mix = mix_of("a=2", *sessions)
            for by, returns in READINGS:
                self.check(mix, by, returns, 2)

    def test_random_mixes(self):
        chance = random.Random(26)
        counts = {True: 0, False: 0}
        for _ in range(700):
            mix = lively_mix(chance, 60)
            by, returns = chance.choice(READINGS)
            safe = bool(judge(mix, by=by, returns=returns))
            if counts[safe] < 40:
                counts[safe] += 1
                self.check(mix, by, returns, 3)
        self.assertEqual(min(counts.values()), 40)


class BoundsTest(unittest.TestCase):
    def check_too_many(self, mix, what, **reading):
        for call in (lambda: judge(mix, **reading), lambda: is_certificate(mix, "any", **reading)):
            with self.assertRaises(TooMany) as caught:
                call()
            self.assertEqual(caught.exception.what, what)

    def ways(self, mix):
        return len(mix.kinds()) * len(Weavings(mix))

    def test_ways_just_kept(self):
        mix = mix_of("a=2 b=3", "look where name = k / look / look / look / commit", "look / look / look / look / look / look / commit")
        self.assertEqual(self.ways(mix), 19800)
        self.assertTrue(judge(mix))
        mix = mix_of("a=1", "look where name = k / look / look / look / look / look / commit", "look / commit", "mark / undo", "mark / undo")
        self.assertEqual(self.ways(mix), 19800)
        self.assertTrue(judge(mix))

    def test_ways_just_passed(self):
        mix = mix_of("a=3", "mark / commit", "look / commit", "look / look / commit", "look / look / commit")
        self.assertEqual(self.ways(mix), 20160)
        for by, returns in READINGS:
            self.check_too_many(mix, "ways", by=by, returns=returns)

    def test_names_count(self):
        sessions = ["look / look / commit", "look / commit", "look / commit", "mark / commit"]
        self.assertTrue(judge(mix_of("a=1", *sessions)))
        sessions[0] = "look where name = k / look where name = j / look / commit"
        self.check_too_many(mix_of("a=3", *sessions), "ways")

    def test_too_many_orders(self):
        mix = mix_of("a=1", *["mark / commit / mark / commit / mark / commit"] * 3)
        self.assertEqual(self.ways(mix), 3360)
        self.check_too_many(mix, "orders")
        self.check_too_many(mix, "orders", returns=False)
        self.assertTrue(judge(mix, by="statements"))

    def test_too_many_ways_ahead_of_too_many_orders(self):
        mix = mix_of("a=3 b=2", *["mark / commit / mark / commit / mark / commit"] * 3)
        self.assertEqual(self.ways(mix), 20160)
        for by in ("transactions", "statements"):
            self.check_too_many(mix, "ways", by=by)
        mix = mix_of("a=1", *["look / look / look / commit"] * 3)
        self.check_too_many(mix, "ways", by="statements")


class VerdictTest(unittest.TestCase):
    def test_it_is_equal_to_nothing_else(self):
        verdict = judge(EXAMPLE)
        for thing in [*ANY, verdict.certificate, judge(SAFE)]:
            self.assertFalse(verdict == thing)

    def test_arguments_stay_and_are_passed_by_name(self):
        text = str(EXAMPLE)
        self.assertEqual(judge(returns=True, by="transactions", mix=EXAMPLE).certificate, judge(EXAMPLE).certificate)
        self.assertEqual(str(EXAMPLE), text)
        with self.assertRaises(TypeError):
            judge(EXAMPLE, "transactions")
        with self.assertRaises(TypeError):
            is_certificate(EXAMPLE, (), "transactions")


if __name__ == "__main__":
    unittest.main()
