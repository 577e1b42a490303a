"""Mixes with `table` and raised mixes, least repairs, and conditions that are kept."""

import itertools
import random
import unittest

from newestrow.conditions import Condition
from newestrow.errors import Bars, NotPossible, TooMany
from newestrow.judging import judge
from newestrow.mixes import Mix
from newestrow.repairs import first_broken, least_raised, least_table, raised, with_table
from newestrow.weavings import Weavings
from newestrow.ways import way
from building import lively_mix, lively_session, mix_of, mix_text

EXAMPLE = mix_of("a=2", "change a = a + 1 where a = 0 / commit", "change a = 0 where a = 1 / commit")
SAFE = mix_of("a=2", "look / commit", "look / commit")
READINGS = [(by, returns) for by in ("transactions", "statements") for returns in (True, False)]


def subsets(pairs):
    for many in range(len(pairs) + 1):
        yield from itertools.combinations(pairs, many)


def searched(mix, change, by, returns):
    """Return all least repairs by a search through all sets."""
    good = [chosen for chosen in subsets(mix.transactions()) if judge(change(mix, chosen), by=by, returns=returns)]
    return sorted(chosen for chosen in good if len(chosen) == min(map(len, good)))


class ChangedTest(unittest.TestCase):
    def setUp(self):
        self.text = mix_text("a=2", "look / commit / begin repeatable / mark / change a = 1 / undo", "table / remove / commit")
        self.mix = Mix.read(self.text)

    def test_none_chosen(self):
        for change in (with_table, raised):
            for chosen in ([], ()):
                self.assertEqual(change(self.mix, chosen), self.mix)
                self.assertIsInstance(change(self.mix, chosen), Mix)

    def test_some_and_all_with_table(self):
        wanted = mix_of("a=2", "look / commit / begin repeatable / table / mark / change a = 1 / undo", "table / remove / commit")
        self.assertEqual(with_table(self.mix, [(0, 1)]), wanted)
        self.assertEqual(with_table(self.mix, ((0, 1),)), wanted)
        wanted = mix_of("a=2", "table / look / commit / begin repeatable / table / mark / change a = 1 / undo", "table / table / remove / commit")
        for chosen in itertools.permutations([(0, 0), (0, 1), (1, 0)]):
            self.assertEqual(with_table(self.mix, chosen), wanted)
            self.assertEqual(with_table(self.mix, list(chosen)), wanted)
        self.assertEqual(len(wanted), len(self.mix) + 3)

    def test_some_and_all_raised(self):
        wanted = mix_of("a=2", "begin repeatable / look / commit / begin repeatable / mark / change a = 1 / undo", "table / remove / commit")
        for chosen in ([(0, 0)], ((0, 0), (0, 1)), [(0, 1), (0, 0)]):
            self.assertEqual(raised(self.mix, chosen), wanted)
        self.assertEqual(raised(self.mix, [(0, 1)]), self.mix)
        wanted = Mix.read(self.text.replace("begin repeatable", "begin").replace("begin", "begin repeatable"))
        self.assertEqual(raised(self.mix, self.mix.transactions()), wanted)

    def test_the_mix_and_the_chosen_ones_stay(self):
        chosen = [(0, 0), (1, 0)]
        for change in (with_table, raised):
            made = change(mix=self.mix, chosen=chosen)
            text = str(made)
            chosen.append((0, 1))
            self.assertEqual(str(made), text)
            chosen.pop()
            self.assertEqual(chosen, [(0, 0), (1, 0)])
            self.assertEqual(self.mix, Mix.read(self.text))
            self.assertEqual(str(self.mix), self.text)

    def test_too_many_statements(self):
        mix = mix_of("a=2", "mark / mark / mark / mark / mark / mark / commit", "look / commit")
        with self.assertRaises(TooMany) as caught:
            with_table(mix, [(0, 0)])
        self.assertEqual(caught.exception.what, "statements")
        self.assertEqual(len(with_table(mix, [(1, 0)])), 4)
        self.assertEqual(raised(mix, [(0, 0)]).sessions[0][0].level, "repeatable")
        with_table(mix_of("a=2", "mark / mark / mark / mark / mark / commit"), [(0, 0)])

    def test_too_many_events(self):
        mix = mix_of("a=2", "look / look / look / look / look / commit", "look / look / look / look / commit")
        self.assertEqual(len(with_table(mix, [(0, 0)])), 12)
        with self.assertRaises(TooMany) as caught:
            with_table(mix, [(0, 0), (1, 0)])
        self.assertEqual(caught.exception.what, "events")
        full = with_table(mix, [(1, 0)])
        self.assertEqual(len(raised(full, full.transactions())), 12)
        # Statements are counted ahead of events.
        mix = mix_of("a=2", "look / look / look / look / look / look / commit", "look / look / look / look / commit")
        for chosen, what in (([(0, 0)], "statements"), ([(1, 0), (0, 0)], "statements"), ([(1, 0)], "events")):
            with self.assertRaises(TooMany) as caught:
                with_table(mix, chosen)
            self.assertEqual(caught.exception.what, what)


class LeastTest(unittest.TestCase):
    def check(self, mix, by, returns, table=True):
        """Compare with the search; return both lists."""
        with self.subTest(mix=str(mix), by=by, returns=returns):
            found = [least_raised(mix, by=by, returns=returns)]
            self.assertEqual(found[0], searched(mix, raised, by, returns))
            if table:
                found.append(least_table(mix, by=by, returns=returns))
                self.assertEqual(found[1], searched(mix, with_table, by, returns))
            for repairs in found:
                self.assertIsInstance(repairs, list)
                self.assertTrue(all(isinstance(chosen, tuple) for chosen in repairs))
            return found

    def test_a_safe_mix(self):
        for by, returns in READINGS:
            self.assertEqual(self.check(SAFE, by, returns), [[()], [()]])

    def test_the_example_of_the_document(self):
        for by, returns in READINGS:
            self.assertEqual(self.check(EXAMPLE, by, returns), [[], [((0, 0),), ((1, 0),)]])

    def test_one_has_to_be_raised(self):
        mix = mix_of("a=2", "look where a = 0 / look where a = 1 / commit", "change a = 1 where a = 0 / commit")
        self.assertEqual(self.check(mix, "transactions", True), [[((0, 0),)], [((0, 0),)]])
        self.assertEqual(self.check(mix, "statements", True), [[()], [()]])
        self.assertEqual(self.check(mix, "transactions", False), [[()], [()]])
        self.assertEqual((least_raised(mix), least_table(mix)), ([((0, 0),)], [((0, 0),)]))

    def test_two_have_to_be_changed(self):
        looks = "look where a = 0 / look where a = 1 / commit"
        mix = mix_of("a=1", looks, looks, "change a = 1 where a = 0 / commit")
        self.assertEqual(self.check(mix, "transactions", True, table=False), [[((0, 0), (1, 0))]])
        self.assertEqual(least_raised(mix), [((0, 0), (1, 0))])

    def test_several_transactions_of_a_session(self):
        mix = mix_of("a=2", "change a = 1 where a = 0 / commit / look / commit", "look where a = 0 / look where a = 1 / commit")
        for by, returns in READINGS:
            self.check(mix, by, returns)
        mix = mix_of("a=1", "mark / commit / look where a = 0 / look where a = 1 / commit", "change a = 1 where a = 0 / commit")
        self.assertEqual(self.check(mix, "transactions", True)[0], [((0, 1),)])

    def test_a_transaction_that_is_repeatable_already(self):
        mix = mix_of("a=2", "begin repeatable / change a = a + 1 where a = 0 / commit", "change a = 0 where a = 1 / commit")
        for by, returns in READINGS:
            self.check(mix, by, returns)

    def test_random_mixes(self):
        chance = random.Random(28)
        counts = {}
        for _ in range(600):
            mix = lively_mix(chance, 60)
            by, returns = chance.choice(READINGS)
            safe = bool(judge(mix, by=by, returns=returns))
            if safe and counts.get("safe", 0) >= 15:
                continue
            table = max(len(transaction.statements) for session in mix.sessions for transaction in session) < 4 and len(mix) <= 6
            found = self.check(mix, by, returns, table)
            for at, repairs in enumerate(found):
                key = "safe" if safe else (at, len(repairs[0]) if repairs else None)
                counts[key] = counts.get(key, 0) + 1
        self.assertGreater(min(counts[key] for key in ((0, None), (0, 1), (1, 1), "safe")), 5)

    def test_parameters_by_name(self):
        for least in (least_table, least_raised):
            self.assertEqual(least(returns=True, by="transactions", mix=SAFE), [()])
            with self.assertRaises(TypeError):
                least(SAFE, "transactions")
            found = least(EXAMPLE)
            found.append("more")
            self.assertNotIn("more", least(EXAMPLE))

    def test_what_table_raises(self):
        def check(mix, what, **reading):
            with self.assertRaises(TooMany) as caught:
                least_table(mix, **reading)
            self.assertEqual(caught.exception.what, what)

        # Safe as they are, or with one `table`: all the same.
        check(mix_of("a=1", "mark / mark / mark / mark / mark / mark / commit"), "statements")
        check(mix_of("a=1", "look / look / look / look / look / look / commit", "look / look / look / look / commit"), "statements")
        check(mix_of("a=1", "look / look / look / look / look / commit", "look / look / look / look / commit"), "events")
        check(mix_of("a=1", *["look / commit"] * 4), "ways")
        self.assertEqual(least_raised(mix_of("a=1", *["look / commit"] * 4)), [()])
        mix = mix_of("a=3 b=2", *["look / commit"] * 3)
        self.assertEqual(len(Weavings(mix)) * 12, 1080)
        check(mix, "ways")
        self.assertTrue(judge(mix))
        marks = mix_of("a=1", *["mark / commit / mark / commit"] * 3)
        self.assertEqual(least_raised(marks), [()])
        check(marks, "ways")
        marks = mix_of("a=1", *["mark / commit / mark / commit / mark / commit"] * 3)
        check(marks, "events")

    def test_what_raised_raises(self):
        for mix, by, what in (
            (mix_of("a=1", *["look / look / look / commit"] * 3), "transactions", "ways"),
            (mix_of("a=1", *["mark / commit / mark / commit / mark / commit"] * 3), "transactions", "orders"),
        ):
            with self.assertRaises(TooMany) as caught:
                least_raised(mix, by=by)
            self.assertEqual(caught.exception.what, what)
        self.assertEqual(least_raised(mix_of("a=1", *["mark / commit / mark / commit / mark / commit"] * 3), by="statements"), [()])


def broken(mix, condition):
    """Return what first_broken has to, from ways alone."""
    for weaving in Weavings(mix).each():
        for kind in mix.kinds():
            if kind[1] is not None and not condition(kind[1], kind[0]):
                continue
            try:
                found = way(mix, weaving, kind)
            except NotPossible:
                break
            except Bars:
                continue
            for position, values in found.versions:
                if values is not None and not condition(values, kind[0]):
                    return weaving, kind, position
    return None


class BrokenTest(unittest.TestCase):
    def check(self, mix, text, wanted):
        condition = Condition(text, mix.table)
        with self.subTest(mix=str(mix), text=text):
            self.assertEqual(first_broken(mix, condition), wanted)
            self.assertEqual(broken(mix, condition), wanted)

    def test_kept(self):
        mix = mix_of("a=2", "change a = a + 1 where a < 1 / commit", "change a = 0 / commit")
        self.check(mix, "a < 2", None)
        self.check(mix, "true", None)
        self.check(mix, "false", None)
        self.check(mix, "a = 2", ((0, 0, 1, 1), (None, (2,)), 3))

    def test_broken_by_the_first_and_by_a_later_commit(self):
        mix = mix_of("a=2", "change a = 1 where a = 0 / commit / change a = 2 where a = 1 / commit")
        self.check(mix, "a = 0", ((0, 0, 0, 0), (None, (0,)), 1))
        self.check(mix, "a < 2", ((0, 0, 0, 0), (None, (0,)), 3))
        self.check(mix, "a != 1", ((0, 0, 0, 0), (None, (0,)), 1))
        self.check(mix, "a > 0", None)
        self.check(mix, "a = 1", ((0, 0, 0, 0), (None, (1,)), 3))

    def test_broken_in_a_later_weaving_only(self):
        mix = mix_of("a=2", "change a = 1 where a = 0 / commit / change a = 0 where a = 1 / commit", "change a = 2 where a = 1 / commit")
        self.check(mix, "a < 2", ((0, 0, 0, 1, 1, 0), (None, (0,)), 4))
        mix = mix_of("a=2", "change a = 1 where a = 0 / commit", "begin repeatable / look / change a = 2 where a = 1 / commit")
        self.check(mix, "a < 2", ((0, 0, 1, 1, 1), (None, (0,)), 4))
        mix = mix_of("a=2", "begin repeatable / look / change a = 2 where a = 1 / commit", "change a = 1 where a = 0 / commit")
        self.check(mix, "a < 2 or name = k", ((0, 0, 0, 1, 1), (None, (1,)), 2))
        self.check(mix, "a != 1 or name = k", ((0, 0, 0, 1, 1), (None, (0,)), 4))

    def test_kinds_without_values(self):
        mix = mix_of("a=2", "put k (1) / commit")
        self.check(mix, "a = 0", ((0, 0), ("k", None), 1))
        self.check(mix, "false", ((0, 0), ("k", None), 1))
        self.check(mix, "a = 1", None)
        self.check(mix, "name != k", ((0, 0), ("k", None), 1))
        self.check(mix, "name = k", None)

    def test_names_that_only_the_condition_mentions(self):
        mix = mix_of("a=2", "change a = 1 / commit")
        self.check(mix, "name = j and a = 0", None)
        self.check(mix, "name != j and a = 0", ((0, 0), (None, (0,)), 1))
        self.check(mix, "name != j or a = 0", None)
        mix = mix_of("a=2", "change a = 1 where name = k / commit")
        self.check(mix, "name = j or a = 0", ((0, 0), ("k", (0,)), 1))
        self.check(mix, "name = k and a = 0", ((0, 0), ("k", (0,)), 1))
        self.check(mix, "name != k", None)

    def test_rows_that_are_removed(self):
        mix = mix_of("a=2", "remove / commit")
        self.check(mix, "a = 0", None)
        mix = mix_of("a=2", "remove / commit / put k (1) / commit")
        self.check(mix, "a = 0", ((0, 0, 0, 0), ("k", None), 3))
        mix = mix_of("a=2", "put k (2) / remove / commit")
        self.check(mix, "a = 0", None)

    def test_what_is_not_committed(self):
        mix = mix_of("a=2", "change a = 2 / undo / mark / change a = 2 / back / change a = 1 / commit")
        self.check(mix, "a < 2", None)
        self.check(mix, "a = 0", ((0,) * 6, (None, (0,)), 5))

    def test_only_possible_weavings_and_kinds_that_do_not_bar(self):
        mix = mix_of("a=2", "table / change a = 1 where a = 0 / commit", "change a = 2 where a = 1 / commit")
        self.check(mix, "a = 0", ((0, 0, 0, 1, 1), (None, (0,)), 2))
        mix = mix_of("a=2", "sole / look / commit", "change a = 1 where a = 0 / commit")
        self.check(mix, "a = 0", ((0, 0, 0, 1, 1), (None, (0,)), 4))

    def test_random_mixes(self):
        chance = random.Random(29)
        found = {True: 0, False: 0}
        for _ in range(150):
            mix = lively_mix(chance, 60)
            text = chance.choice(["a = 0", "a < 2", "a != 1", "a > 0", "name = k or a = 1", "name != k or a = 1", "a = 2 or name = j"])
            condition = Condition(text, mix.table)
            wanted = broken(mix, condition)
            self.assertEqual(first_broken(mix, condition), wanted, (str(mix), text))
            found[wanted is None] += 1
        self.assertGreater(min(found.values()), 20)

    def test_too_many_ways(self):
        mix = mix_of("a=1", *["look / look / look / commit"] * 3)
        with self.assertRaises(TooMany) as caught:
            first_broken(mix, Condition("true", mix.table))
        self.assertEqual(caught.exception.what, "ways")
        mix = mix_of("a=1", *["mark / commit / mark / commit / mark / commit"] * 3)
        self.assertIsNone(first_broken(condition=Condition("true", mix.table), mix=mix))


class KeptTest(unittest.TestCase):
    def test_with_table_in_all_a_mix_is_safe(self):
        chance = random.Random(30)
        for _ in range(60):
            mix = mix_of("a=2", *[lively_session(chance, 1) for _ in range(2)])
            for by, returns in READINGS:
                self.assertTrue(judge(with_table(mix, mix.transactions()), by=by, returns=returns))
                self.assertNotEqual(least_table(mix, by=by, returns=returns), [])


if __name__ == "__main__":
    unittest.main()
