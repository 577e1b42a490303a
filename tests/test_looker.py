"""Certificates of verdicts: which values are some, and which are none."""

import itertools
import random
import unittest

from newestrow.errors import Bars, NotPossible
from newestrow.judging import judge
from newestrow.looker import is_certificate
from newestrow.results import result, serial_result
from newestrow.weavings import Weavings, is_possible, orders
from newestrow.ways import way
from building import ANY, lively_mix, mix_of, with_parts_replaced

EXAMPLE = mix_of("a=2", "change a = a + 1 where a = 0 / commit", "change a = 0 where a = 1 / commit")
SAFE = mix_of("a=1", "look where a = 0 / commit", "change a = 1 where a = 0 / commit")
NAMED = mix_of("a=1", "look where name = k / commit", "put k (0) or change a = 0 / commit")
READINGS = [(by, returns) for by in ("transactions", "statements") for returns in (True, False)]


def outcome(mix, weaving, kind, returns):
    """Return what a row of a kind comes to, None if it bars."""
    try:
        found = way(mix, weaving, kind)
    except Bars:
        return None
    return found.end, found.returned if returns else None


def serial_outcome(mix, order, kind, returns):
    name, values = kind
    database = () if values is None else (kind,)
    found = serial_result(mix, order, database)
    place = [name for name, _ in found.rows].index(name)
    told = {unit: dict(rows).get(place) for unit, rows in found.returned.items()}
    return found.rows[place][1], told if returns else None


def explains_all(mix, weaving, given, returns):
    """Tell as point 27 does whether these orders do for a weaving, without masks or the like."""
    ways = {kind: outcome(mix, weaving, kind, returns) for kind in mix.kinds()}
    free = [kind for kind in ways if ways[kind] is not None]
    plain = [kind for kind in free if kind[0] is None]
    named = [[kind for kind in free if kind[0] == name] for name in mix.names()]
    return all(
        any(all(serial_outcome(mix, order, kind, returns) == ways[kind] for kind in [*plain, *choice]) for order in given)
        for choice in itertools.product(*named)
    )


def is_safe_certificate(mix, thing, by, returns):
    """Tell as point 27 does whether ("safe", rows), where rows are tuples of weavings and orders, is a certificate."""
    if [weaving for weaving, _ in thing[1]] != [weaving for weaving in Weavings(mix).each() if is_possible(mix, weaving)]:
        return False
    known = orders(mix, by=by)
    return all(all(order in known for order in given) and explains_all(mix, weaving, given, returns) for weaving, given in thing[1])


class SafeTest(unittest.TestCase):
    def setUp(self):
        self.certificate = judge(SAFE).certificate
        self.rows = self.certificate[1]

    def check(self, rows, wanted, mix=SAFE, **reading):
        self.assertIs(is_certificate(mix, ("safe", tuple(rows)), **reading), wanted, rows)

    def test_as_told(self):
        for mix in (SAFE, NAMED):
            for by, returns in READINGS:
                verdict = judge(mix, by=by, returns=returns)
                self.assertTrue(is_certificate(mix, verdict.certificate, by=by, returns=returns))
        self.assertTrue(is_certificate(SAFE, self.certificate))

    def test_more_orders_and_others(self):
        every = tuple(orders(SAFE))
        self.check([(weaving, every) for weaving, _ in self.rows], True)
        self.check([(weaving, every[::-1]) for weaving, _ in self.rows], True)
        self.check([(weaving, given * 2) for weaving, given in self.rows], True)
        self.check([(weaving, given + every * 3) for weaving, given in self.rows], True)
        mix = mix_of("a=1", "look / commit", "look / commit")
        weavings = [weaving for weaving, _ in judge(mix).certificate[1]]
        for order in orders(mix):
            self.check([(weaving, (order,)) for weaving in weavings], True, mix)

    def test_weavings_left_out_or_in_another_order(self):
        for at in range(len(self.rows)):
            self.check(self.rows[:at] + self.rows[at + 1:], False)
            self.check(self.rows[:at] + self.rows[at:at + 1] * 2 + self.rows[at + 1:], False)
        self.check(self.rows[::-1], False)
        self.check((self.rows[1], self.rows[0], *self.rows[2:]), False)
        self.check((), False)

    def test_a_weaving_that_is_not_possible(self):
        mix = mix_of("a=1", "table / commit", "look / share / commit")
        certificate = judge(mix).certificate
        self.assertTrue(is_certificate(mix, certificate))
        weavings = list(Weavings(mix).each())
        self.assertLess(len(certificate[1]), len(weavings))
        every = tuple(orders(mix))
        self.check([(weaving, every) for weaving in weavings], False, mix)
        self.check([(weaving, every) for weaving in weavings if is_possible(mix, weaving)], True, mix)

    def test_orders_that_are_none(self):
        good = self.rows[0][1][0]
        for order in [*ANY, good[:1], good * 2, list(good), good + ((2, 0),), ((False, 0), (1, 0)), ((0, 0), (True, 0)), ((0, 0, 0), (1, 0, 0)),
                      tuple(list(pair) for pair in good)]:
            for given in ((order,), (*self.rows[0][1], order), (order, *self.rows[0][1])):
                self.check(((self.rows[0][0], given), *self.rows[1:]), False)

    def test_orders_of_the_other_sort(self):
        for by, other in (("transactions", "statements"), ("statements", "transactions")):
            certificate = judge(SAFE, by=by).certificate
            self.assertTrue(is_certificate(SAFE, certificate, by=by))
            self.assertFalse(is_certificate(SAFE, certificate, by=other))

    def test_too_few_orders(self):
        for at, (weaving, given) in enumerate(self.rows):
            self.check((*self.rows[:at], (weaving, ()), *self.rows[at + 1:]), False)
        for mix in (SAFE, NAMED):
            rows = judge(mix).certificate[1]
            for many in range(3):
                for given in itertools.combinations(orders(mix), many):
                    for at, (weaving, _) in enumerate(rows):
                        wanted = explains_all(mix, weaving, given, True)
                        self.check((*rows[:at], (weaving, given), *rows[at + 1:]), wanted, mix)

    def test_one_order_is_not_enough_for_all_choices(self):
        mix = mix_of("a=1", "put k (0) / commit", "put k (1) / look where a = 0 and name != k / commit", "change a = 1 where name != k / commit")
        certificate = judge(mix).certificate
        longest = max(len(given) for _, given in certificate[1])
        if longest > 1:
            for at, (weaving, given) in enumerate(certificate[1]):
                if len(given) > 1:
                    self.check((*certificate[1][:at], (weaving, given[:1]), *certificate[1][at + 1:]), False, mix)
        self.assertTrue(is_certificate(mix, certificate))

    def test_no_order_where_all_kinds_of_a_name_bar(self):
        mix = mix_of("a=1", "put k (0) / look / commit", "put k (1) / look / commit")
        rows = judge(mix).certificate[1]
        self.assertIn((), [given for _, given in rows])
        every = tuple(orders(mix))
        self.check([(weaving, every) for weaving, _ in rows], True, mix)
        self.check([(weaving, ()) for weaving, _ in rows], False, mix)
        self.check([(weaving, given or ("no order",)) for weaving, given in rows], False, mix)

    def test_values_bent_in_each_place(self):
        for bent in with_parts_replaced(self.certificate, ANY):
            wanted = bent == self.certificate and repr(bent) == repr(self.certificate)
            if isinstance(bent, tuple) and len(bent) == 2 and bent[0] == "safe" and repr(bent[1]).startswith("(((0, 0"):
                try:
                    wanted = is_safe_certificate(SAFE, bent, "transactions", True) and "True" not in repr(bent) \
                        and "False" not in repr(bent) and "[" not in repr(bent)
                except (TypeError, ValueError):
                    wanted = False
            self.assertIs(is_certificate(SAFE, bent), wanted, bent)

    def test_certificates_of_random_mixes(self):
        chance = random.Random(27)
        many = {True: 0, False: 0}
        for _ in range(60):
            mix = lively_mix(chance, 20)
            by, returns = chance.choice(READINGS)
            verdict = judge(mix, by=by, returns=returns)
            known = orders(mix, by=by)
            if verdict:
                self.assertTrue(is_safe_certificate(mix, verdict.certificate, by, returns))
            for _ in range(4):
                rows = tuple(
                    (weaving, tuple(chance.choices(known, k=chance.randrange(1, 1 + 2 * len(known)))))
                    for weaving in Weavings(mix).each() if is_possible(mix, weaving)
                )
                wanted = is_safe_certificate(mix, ("safe", rows), by, returns)
                self.assertIs(is_certificate(mix, ("safe", rows), by=by, returns=returns), wanted)
                many[wanted] += 1
        self.assertGreater(min(many.values()), 30)


class UnsafeTest(unittest.TestCase):
    def setUp(self):
        self.certificate = judge(EXAMPLE).certificate

    def check(self, weaving, database, wanted, mix=EXAMPLE, **reading):
        self.assertIs(is_certificate(mix, ("unsafe", weaving, database), **reading), wanted, (weaving, database))

    def test_as_told_and_larger(self):
        self.assertTrue(is_certificate(EXAMPLE, self.certificate))
        one, other = (None, (0,)), (None, (1,))
        for database in ((one, other), (other, one), (one, other, one), (("k", (0,)), other), (one, other) * 40):
            self.check((0, 1, 0, 1), database, True)

    def test_a_database_that_some_order_explains(self):
        for database in ((), ((None, (0,)),), ((None, (1,)),), ((None, (2,)), (None, (0,)))):
            self.check((0, 1, 0, 1), database, False)
        self.check((0, 0, 1, 1), ((None, (0,)), (None, (1,))), False)

    def test_a_database_that_a_place_bars(self):
        # The second `sole` is under way until the first row is released, so nothing bars.
        mix = mix_of("a=2", "change a = a + 1 where a = 0 / sole where a = 2 / commit",
                     "change a = 0 where a = 1 / sole where a = 2 / commit")
        weaving = (0, 1, 0, 1, 0, 1)
        rows = ((None, (0,)), (None, (1,)))
        self.check(weaving, rows, True, mix)
        self.check(weaving, rows + ((None, (2,)),), True, mix)
        mix = mix_of("a=2", "sole where a = 2 / change a = a + 1 where a = 0 / commit",
                     "sole where a = 2 / change a = 0 where a = 1 / commit")
        self.check(weaving, rows, True, mix)
        self.check(weaving, rows + ((None, (2,)),), False, mix)
        mix = mix_of("a=2", "put k (0) / change a = a + 1 where a = 0 and name != k / commit",
                     "put k (1) / change a = 0 where a = 1 and name != k / commit")
        for weaving in ((0, 1, 0, 1, 0, 1), (0, 0, 1, 1, 0, 1)):
            for database in (rows, rows + (("k", (2,)),)):
                try:
                    result(mix, weaving, database)
                except Bars:
                    self.check(weaving, database, False, mix)

    def test_wrong_databases(self):
        one, other = (None, (0,)), (None, (1,))
        self.check((0, 1, 0, 1), (one, other) * 40 + (one,), False)
        self.check((0, 1, 0, 1), (one, other, ("k", (0,)), ("k", (0,))), False)
        self.check((0, 1, 0, 1), (one, other, ("k", (0,)), ("j", (0,))), True)
        for thing in [*ANY, [one, other]]:
            self.check((0, 1, 0, 1), thing, False)
            self.check((0, 1, 0, 1), (one, other, thing), False)

    def test_wrong_weavings(self):
        database = self.certificate[2]
        for weaving in [*ANY, [0, 1, 0, 1], (0, 1, 0), (0, 1, 0, 1, 0), (False, 1, 0, 1), (0, True, 0, True), (0, 1, 0, 2), (0, 0, 0, 1)]:
            self.check(weaving, database, False)
        mix = mix_of("a=2", "table / change a = a + 1 where a = 0 / commit", "change a = 0 where a = 1 / commit")
        weaving = (0, 0, 1, 0, 1)
        with self.assertRaises(NotPossible):
            result(mix, weaving, database)
        self.check(weaving, database, False, mix)

    def test_other_readings(self):
        mix = mix_of("a=2", "look where a = 0 / look where a = 1 / commit", "change a = 1 where a = 0 / commit")
        certificate = judge(mix).certificate
        self.assertTrue(is_certificate(mix, certificate))
        self.assertFalse(is_certificate(mix, certificate, by="statements"))
        self.assertFalse(is_certificate(mix, certificate, returns=False))

    def test_values_bent_in_each_place(self):
        for bent in with_parts_replaced(self.certificate, [*ANY, (None, (0,)), (None, (1,)), (0, 1, 0, 1)]):
            wanted = False
            if isinstance(bent, tuple) and len(bent) == 3 and bent[0] == "unsafe" and repr(bent[1]) == "(0, 1, 0, 1)":
                database = bent[2]
                good = isinstance(database, tuple) and all(isinstance(row, tuple) and len(row) == 2 and row[0] in (None, "a", "k", "commit", "look")
                                                           and row[1] in EXAMPLE.table for row in database)
                wanted = good and {(0,), (1,)} <= {row[1] for row in database}
            self.assertIs(is_certificate(EXAMPLE, bent), wanted, bent)

    def test_any_value(self):
        for mix in (EXAMPLE, SAFE):
            for thing in [*ANY, ("safe",), ("unsafe",), ("safe", ()), ("unsafe", (), ()), ["safe", ()], "safe", "unsafe", ("safe", (), ()),
                          ("unsafe", ()), ("other", ()), ("stands", ()), ("safe", []), (True, ()), (None, (), ())]:
                self.assertIs(is_certificate(mix, thing), False)

    def test_the_other_word(self):
        self.assertFalse(is_certificate(EXAMPLE, ("safe", *self.certificate[1:])))
        self.assertFalse(is_certificate(EXAMPLE, ("fails", *self.certificate[1:])))
        self.assertFalse(is_certificate(SAFE, ("unsafe", *judge(SAFE).certificate[1:])))
        self.assertFalse(is_certificate(SAFE, ("stands", *judge(SAFE).certificate[1:])))
        self.assertFalse(is_certificate(SAFE, list(judge(SAFE).certificate)))

    def test_what_is_looked_over_stays(self):
        thing = ("safe", [[(0, 0, 1, 1), [((0, 0), (1, 0))]]])
        is_certificate(SAFE, thing)
        self.assertEqual(thing, ("safe", [[(0, 0, 1, 1), [((0, 0), (1, 0))]]]))
        self.assertTrue(is_certificate(returns=True, by="transactions", thing=self.certificate, mix=EXAMPLE))


if __name__ == "__main__":
    unittest.main()
