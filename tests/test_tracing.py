"""Traces of histories by weavings and by orders, and their certificates."""

import itertools
import random
import unittest

from newestrow.errors import BadHistory, Bars, TooMany
from newestrow.results import serial_result
from newestrow.tracing import Trace, is_trace, trace
from newestrow.weavings import Weavings, is_possible, orders
from newestrow.ways import way
from building import ANY, lively_mix, mix_of, with_parts_replaced

U = "unknown"
ALL = ("weavings", "transactions", "statements")
EXAMPLE = mix_of("a=2", "change a = a + 1 where a = 0 / commit", "change a = 0 where a = 1 / commit")
NAMED = mix_of("a=2", "put k (1) or change a = 0 / look where name = k / commit", "remove where name = k / commit")


def things_of(mix, by):
    """All that can give a history, in order."""
    if by == "weavings":
        return [weaving for weaving in Weavings(mix).each() if is_possible(mix, weaving)]
    return orders(mix, by=by)


def told_of(mix, thing, kind, by):
    """Return the values at the end of a kind and what was returned of it; None if it bars."""
    if by == "weavings":
        try:
            found = way(mix, thing, kind)
        except Bars:
            return None
        return found.end, found.returned
    found = serial_result(mix, thing, () if kind[1] is None else (kind,))
    place = [name for name, _ in found.rows].index(kind[0])
    return found.rows[place][1], {unit: dict(rows).get(place) for unit, rows in found.returned.items()}


class Oracle:
    """What points 37 and 38 say, kind by kind."""

    def __init__(self, mix, history, by):
        self.mix, self.history = mix, history
        self.things = things_of(mix, by)
        self.told = {thing: {kind: told_of(mix, thing, kind, by) for kind in mix.kinds()} for thing in self.things}

    def fits(self, thing, kind, account):
        name, first, last, told = account
        found = self.told[thing][kind]
        return found is not None and kind[0] == name and first in (U, kind[1]) and last in (U, found[0]) \
            and all(found[1][unit] == values for unit, values in told)

    def gives(self, thing, accounts):
        present = [kind[0] for kind in self.told[thing] if self.told[thing][kind] is not None]
        return all(name in present for name in self.mix.names()) \
            and all(any(self.fits(thing, kind, account) for kind in self.told[thing]) for account in accounts)

    def first(self):
        """Return the first thing that gives the history, or None."""
        return next((thing for thing in self.things if self.gives(thing, self.history)), None)

    def never(self):
        """Return the indexes for a history that nothing gives."""
        for many in range(len(self.history) + 1):
            for indexes in itertools.combinations(range(len(self.history)), many):
                if not any(self.gives(thing, [self.history[at] for at in indexes]) for thing in self.things):
                    return indexes
        return None

    def check(self, test, found):
        first = self.first()
        test.assertIs(bool(found), first is not None)
        if first is None:
            test.assertEqual(found.certificate, ("never", self.never()))
            test.assertEqual(len(found), len(self.never()))
        else:
            word, thing, kinds = found.certificate
            test.assertEqual((word, thing, len(kinds), len(found)), ("given", first, len(self.history), 0))
            test.assertTrue(all(self.fits(thing, kind, account) for kind, account in zip(kinds, self.history)))


class TraceTest(unittest.TestCase):
    def check(self, mix, history, by="weavings"):
        with self.subTest(mix=str(mix), history=history, by=by):
            found = trace(mix, history, by=by)
            self.assertIsInstance(found, Trace)
            self.assertIsInstance(found.certificate, tuple)
            Oracle(mix, history, by).check(self, found)
            self.assertTrue(is_trace(mix, history, found.certificate, by=by))
            return found

    def test_the_example_of_the_document(self):
        both = ((None, (0,), (1,), ()), (None, (1,), (0,), ()))
        self.assertEqual(self.check(EXAMPLE, both).certificate, ("given", (0, 1, 0, 1), ((None, (0,)), (None, (1,)))))
        for by in ("transactions", "statements"):
            self.assertEqual(self.check(EXAMPLE, both, by).certificate, ("never", (0, 1)))
            self.assertEqual(len(trace(EXAMPLE, both, by=by)), 2)
            self.assertEqual(self.check(EXAMPLE, both[:1], by).certificate[0], "given")
            self.assertEqual(self.check(EXAMPLE, both[1:], by).certificate[0], "given")

    def test_nothing_is_known(self):
        for mix in (EXAMPLE, NAMED):
            for by in ALL:
                found = self.check(mix, (), by)
                self.assertEqual(found.certificate, ("given", things_of(mix, by)[0], ()))
                found = self.check(mix, ((None, U, U, ()),) * 12, by)
                self.assertEqual(len(found.certificate[2]), 12)

    def test_names(self):
        for by in ALL:
            for first, last in itertools.product([None, (0,), (1,), U], repeat=2):
                for told in ((), (((0, 0, 1), (0,)),), (((0, 0, 1), None), ((1, 0, 0), None)), (((1, 0, 0), (1,)), ((0, 0, 0), (1,)))):
                    self.check(NAMED, (("k", first, last, told),), by)
                    self.check(NAMED, (("k", first, last, told), (None, (2,), U, (((0, 0, 1), None),))), by)

    def test_the_first_that_gives(self):
        mix = mix_of("a=2", "change a = 1 where a = 0 / commit", "look where a = 1 / commit")
        found = self.check(mix, ((None, (0,), U, (((1, 0, 0), None),)),))
        self.assertEqual(found.certificate[1], (0, 1, 0, 1))
        found = self.check(mix, ((None, (0,), U, (((1, 0, 0), (1,)),)),))
        self.assertEqual(found.certificate[1], (0, 0, 1, 1))
        found = self.check(mix, ((None, U, (0,), ()),))
        self.assertEqual(found.certificate, ("never", (0,)))

    def test_as_few_indexes_as_possible_and_the_first_of_these(self):
        good, one, other = (None, U, U, ()), (None, (0,), (1,), ()), (None, (1,), (0,), ())
        wrong = (None, (2,), (1,), ())
        for history, never in (
            ((good, one, good, other), (1, 3)), ((one, other, one, other), (0, 1)), ((other, good, other, one, one), (0, 3)),
            ((good, one, other, wrong), (3,)), ((wrong, one, other, wrong), (0,)), ((one, other, wrong, good), (2,)),
        ):
            self.assertEqual(self.check(EXAMPLE, history, "transactions").certificate, ("never", never))
        mix = mix_of("a=3", *[f"look where a = {at} / commit / change a = 3 where a = {at} / commit" for at in (0, 1)])
        three = tuple((None, (at,), (3,), (((at, 0, 0), None),)) for at in (0, 1))
        self.check(mix, three)

    def test_three_accounts_that_no_two_rule_out(self):
        changes = ["change a = 1 where a = 0", "change a = 2 where a = 1", "change a = 0 where a = 2"]
        mix = mix_of("a=2", *[f"{change} / commit" for change in changes])
        history = tuple((None, (at,), ((at + 2) % 3,), ()) for at in range(3))
        # Each row is changed twice, so each change comes before the next one, all around.
        for by in ("transactions", "statements"):
            self.assertEqual(self.check(mix, history, by).certificate[0], "never")
            self.check(mix, history[1:], by)
            self.check(mix, (history[0], (None, (1,), (2,), ()), (None, (2,), (0,), ())), by)

    def test_only_possible_weavings(self):
        mix = mix_of("a=2", "table / change a = 1 where a = 0 / commit", "sole where a = 0 / commit")
        for told in (((1, 0, 0), (0,)), ((1, 0, 0), None)):
            found = self.check(mix, ((None, (0,), (1,), (told,)),))
            self.assertTrue(is_possible(mix, found.certificate[1]))

    def test_a_name_of_which_all_kinds_bar(self):
        mix = mix_of("a=1", "put k (0) / look / commit", "put k (1) / look / commit")
        found = self.check(mix, ())
        self.assertEqual(found.certificate[1], (0, 0, 0, 1, 1, 1))
        # Such a weaving gives nothing, though the row without a name would fit in it.
        told = (((0, 0, 1), (0,)), ((1, 0, 1), (0,)))
        self.check(mix, ((None, (0,), (0,), told),))
        barred = [weaving for weaving in Weavings(mix).each() if not Oracle(mix, (), "weavings").gives(weaving, ())]
        self.assertTrue(barred)
        mix = mix_of("a=1", "put k (0) / change a = 1 where a = 0 and name != k / commit",
                     "put k (1) / change a = 0 where a = 1 and name != k / commit")
        for by in ALL:
            self.check(mix, ((None, (0,), (1,), ()), (None, (1,), (0,), ())), by)

    def random_account(self, chance, mix, by, name):
        """Return an account that fits something somewhere, or nearly so."""
        thing = chance.choice(things_of(mix, by))
        kind = chance.choice([kind for kind in mix.kinds() if kind[0] == name])
        found = told_of(mix, thing, kind, by) or (None, {})
        told = tuple((unit, found[1].get(unit)) for unit in chance.sample(mix.units(), min(len(mix.units()), chance.randrange(3))))
        if told and chance.random() < 0.1:
            told = ((told[0][0], (1,)), *told[1:])
        return name, chance.choice([kind[1], kind[1], U]), chance.choice([found[0], found[0], U, (1,)]), told

    def test_random_histories(self):
        chance = random.Random(38)
        counts = {}
        for _ in range(1000):
            mix = lively_mix(chance, 20)
            by = chance.choice(ALL)
            names = [*mix.names(), None, None, None, None]
            history = tuple(self.random_account(chance, mix, by, name) for name in chance.sample(names, chance.randrange(5)))
            found = self.check(mix, history, by)
            key = (by, found.certificate[0], len(found))
            counts[key] = counts.get(key, 0) + 1
        for by in ALL:
            self.assertGreater(counts[by, "given", 0], 10)
            self.assertGreater(counts[by, "never", 1], 10)
        self.assertGreater(sum(counts.get((by, "never", 2), 0) for by in ALL), 3)

    def test_parameters_by_name(self):
        self.assertEqual(trace(by="weavings", history=(), mix=EXAMPLE).certificate, trace(EXAMPLE, ()).certificate)
        with self.assertRaises(TypeError):
            trace(EXAMPLE, (), "weavings")
        with self.assertRaises(TypeError):
            is_trace(EXAMPLE, (), "any", "weavings")
        for thing in [*ANY, trace(EXAMPLE, ()).certificate, trace(EXAMPLE, ())]:
            self.assertFalse(trace(EXAMPLE, ()) == thing)


class WrongHistoryTest(unittest.TestCase):
    def check(self, history, at, mix=NAMED):
        for by in ALL:
            for call in (lambda: trace(mix, history, by=by), lambda: is_trace(mix, history, "any", by=by)):
                with self.subTest(history=history, by=by), self.assertRaises(BadHistory) as caught:
                    call()
                self.assertEqual(caught.exception.at, at)

    def test_no_history(self):
        for thing in ANY:
            if not isinstance(thing, tuple):
                self.check(thing, -1)
        good = (None, U, U, ())
        self.check([good], -1)
        self.check((good,) * 13, -1)
        self.check(("wrong",) * 13, -1)
        trace(NAMED, (good,) * 12)

    def test_entries_that_are_no_accounts(self):
        good = (None, (0,), (1,), (((0, 0, 0), (1,)), ((1, 0, 0), None)))
        for thing in [*ANY, list(good), good[:3], (*good, ()), ("j", *good[1:]), ("", *good[1:]), (U, *good[1:]), (("k",), *good[1:])]:
            self.check((thing,), 0)
            self.check((good, good, thing, "wrong"), 2)
        for values in [*ANY, [0], (3,), (-1,), (True,), (0, 0), "Unknown", "unknown ", ("unknown",)]:
            if values is not None and values not in NAMED.table:
                self.check(((None, values, U, ()),), 0)
                self.check((good, (None, U, values, ())), 1)
                self.check((good, (None, U, U, (((0, 0, 0), values),))), 1)
        self.check((good, (None, None, U, ())), 1)
        self.check((good, (None, None, None, ())), 1)
        trace(NAMED, ((None, U, None, ()), ("k", None, None, ())))
        self.check((good, (None, U, U, (((0, 0, 0), U),))), 1)

    def test_what_was_told(self):
        one, other = ((0, 0, 0), (1,)), ((1, 0, 0), None)
        trace(NAMED, ((None, U, U, (other, one)),))
        for told in [*[thing for thing in ANY if thing != ()], [one], one, (one, one), (one, other, ((0, 0, 0), None)), (list(one),), ((list(one[0]), (1,)),),
                     (((0, 0, False), (1,)),), (((False, 0, 0), (1,)),), (((0, 0), (1,)),), (((0, 0, 2), (1,)),), (((2, 0, 0), (1,)),),
                     (((0, 0, 0),),), (((0, 0, 0), (1,), ()),), (((0, 0, -1), None),)]:
            self.check(((None, U, U, told),), 0)
        mix = mix_of("a=2", "mark / look / back / look / commit", "look / undo / table / commit")
        for unit in ((0, 0, 0), (0, 0, 1), (0, 0, 2), (1, 0, 0), (1, 1, 0)):
            self.check(((None, U, U, ((unit, None),)),), 0, mix)
        trace(mix, ((None, U, U, (((0, 0, 3), None),)),))

    def test_one_name_twice(self):
        self.check((("k", U, U, ()), (None, U, U, ()), ("k", U, U, ())), 2)
        mix = mix_of("a=1", "put k (0) / put j (0) / commit")
        trace(mix, (("k", U, U, ()), ("j", U, U, ()), (None, U, U, ()), (None, U, U, ())))
        self.check((("k", U, U, ()), ("j", U, U, ()), ("j", U, U, ())), 2, mix)

    def test_ahead_of_too_many(self):
        large = mix_of("a=1", *["look / look / look / commit"] * 3)
        marks = mix_of("a=1", *["mark / commit / mark / commit / mark / commit"] * 3)
        for mix, by, what in ((large, "weavings", "ways"), (marks, "transactions", "orders"), (large, "statements", "orders")):
            for call in (lambda: trace(mix, (), by=by), lambda: is_trace(mix, (), "any", by=by)):
                with self.assertRaises(TooMany) as caught:
                    call()
                self.assertEqual(caught.exception.what, what)
            with self.assertRaises(BadHistory):
                trace(mix, ("wrong",), by=by)
        self.assertTrue(trace(large, (), by="transactions"))
        self.assertTrue(trace(marks, ()))
        self.assertTrue(trace(marks, (), by="statements"))


class CertificateTest(unittest.TestCase):
    def check(self, mix, history, thing, wanted, by="weavings"):
        self.assertIs(is_trace(mix, history, thing, by=by), wanted, thing)

    def test_other_kinds_that_fit(self):
        history = ((None, U, (2,), ()), (None, U, U, ()), ("k", U, U, (((1, 0, 0), None),)))
        for by in ALL:
            certificate = trace(NAMED, history, by=by).certificate
            oracle = Oracle(NAMED, history, by)
            found = {True: 0, False: 0}
            for kinds in itertools.product(NAMED.kinds(), repeat=3):
                wanted = all(oracle.fits(certificate[1], kind, account) for kind, account in zip(kinds, history))
                found[wanted] += 1
                self.check(NAMED, history, ("given", certificate[1], kinds), wanted, by)
            self.assertGreater(min(found.values()), 2)

    def test_another_thing(self):
        history = ((None, (0,), (1,), ()),)
        for by in ALL:
            certificate = trace(EXAMPLE, history, by=by).certificate
            for thing in things_of(EXAMPLE, by):
                self.check(EXAMPLE, history, ("given", thing, certificate[2]), thing == certificate[1], by)
            for other in ALL:
                self.check(EXAMPLE, history, certificate, other == by, other)

    def test_another_never(self):
        history = ((None, (0,), (1,), ()), (None, U, U, ()), (None, (1,), (0,), ()), (None, (0,), (1,), ()))
        for many in range(5):
            for indexes in itertools.product(range(-1, 5), repeat=many):
                self.check(EXAMPLE, history, ("never", indexes), indexes == (0, 2), "statements")
        for thing in (("never", [0, 2]), ("never", (False, 2)), ("never", 0, 2), ("never",), ["never", (0, 2)], ("given", (0, 2)),
                      ("never", (0, 2), ()), (0, 2)):
            self.check(EXAMPLE, history, thing, False, "statements")

    def test_values_bent_in_each_place(self):
        cases = [
            (EXAMPLE, ((None, (0,), (1,), ()), (None, (1,), (0,), ())), "weavings"),
            (EXAMPLE, ((None, (0,), (1,), ()), (None, (1,), (0,), ())), "statements"),
            (EXAMPLE, ((None, (1,), (0,), ()), (None, U, (2,), ())), "transactions"),
            (NAMED, (("k", None, None, ()),), "transactions"),
        ]
        for mix, history, by in cases:
            certificate = trace(mix, history, by=by).certificate
            for bent in with_parts_replaced(certificate, [*ANY, (None, (0,))]):
                self.check(mix, history, bent, repr(bent) == repr(certificate), by)

    def test_any_value(self):
        for mix in (EXAMPLE, NAMED):
            for history in ((), ((None, (0,), None, ()),)):
                for by in ALL:
                    for thing in [*ANY, "given", "never", ("given",), ("given", ()), ("given", (), ()), ("never", ()), ("never", (1,)), ("safe", ())]:
                        self.check(mix, history, thing, False, by)

    def test_what_is_passed_stays(self):
        thing = ["given", [0, 0, 1, 1], [(None, (0,))]]
        is_trace(EXAMPLE, ((None, (0,), (1,), ()),), thing)
        self.assertEqual(thing, ["given", [0, 0, 1, 1], [(None, (0,))]])
        self.assertTrue(is_trace(by="weavings", thing=trace(EXAMPLE, ()).certificate, history=(), mix=EXAMPLE))


if __name__ == "__main__":
    unittest.main()
