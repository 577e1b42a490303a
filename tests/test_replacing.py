"""Joined mixes, and whether one part stands for another, compared with what results of small databases say."""

import itertools
import random
import unittest

from newestrow.errors import BadMix, Bars, TooMany
from newestrow.looker import is_standing
from newestrow.mixes import Mix, Transaction
from newestrow.replacing import Standing, joined, stands_for
from newestrow.statements import Statement
from newestrow.tables import Table
from newestrow.weavings import Weavings, is_possible
from newestrow.ways import way
from building import ANY, lively_session, mix_of

PART = mix_of("a=2", "remove where a = 2 / remove where a = 1 / commit")
RAISED = mix_of("a=2", "begin repeatable / remove where a = 2 / remove where a = 1 / commit")
TABLED = mix_of("a=2", "table / remove where a = 2 / remove where a = 1 / commit")
COMPANY = mix_of("a=2", "sole where a = 2 / look where a = 1 / commit", "change a = 1 where a = 0 / commit")
READINGS = [(returns, strict) for returns in (True, False) for strict in (True, False)]


def seen_of(mix, weaving, kind, units):
    """Return what is seen of a kind as point 33 says, None if it bars."""
    name, values = kind
    if name is not None and name not in mix.names():
        if values is None:
            return None, tuple(None for _ in units)
        kind = (None, values)
    try:
        found = way(mix, weaving, kind)
    except Bars:
        return None
    return found.end, tuple(found.returned[unit] for unit in units)


class Comparison:
    """What point 34 says of two parts in a company, without masks or the like."""

    def __init__(self, one, other, company, returns, strict):
        self.sessions = len(company.sessions) if company else 0
        self.strict = strict
        self.one, self.other = joined(company, one), joined(company, other)
        self.names = sorted({*self.one.names(), *self.other.names()})
        values = self.one.table.all_values()
        self.kinds = [(None, row) for row in values] + [(name, row) for name in self.names for row in [None, *values]]
        self.units = [unit for unit in self.one.units() if returns and unit[0] < self.sessions]
        self.ways = [
            {weaving: {kind: seen_of(mix, weaving, kind, self.units) for kind in self.kinds}
             for weaving in Weavings(mix).each() if is_possible(mix, weaving)}
            for mix in (self.one, self.other)
        ]

    def order(self, weaving):
        return [number for number in weaving if number < self.sessions]

    def others(self, weaving):
        """The weavings of the other part that may give the seen result."""
        return [other for other in self.ways[1] if not self.strict or self.order(other) == self.order(weaving)]

    def gives(self, weaving, kinds, other):
        return all(self.ways[1][other][kind] is not None and self.ways[1][other][kind] == self.ways[0][weaving][kind] for kind in kinds)

    def is_given(self, weaving, kinds, others):
        return any(self.gives(weaving, kinds, other) for other in others)

    def places(self, database):
        """The kinds of the places of a database."""
        present = [name for name, _ in database]
        return [(name if name in self.names else None, values) for name, values in database] \
            + [(name, None) for name in self.names if name not in present]

    def is_in(self, weaving, kinds):
        return all(self.ways[0][weaving][kind] is not None for kind in kinds)

    def databases(self, most):
        rows = [kind for kind in self.kinds if kind[1] is not None]
        for many in range(most + 1):
            for database in itertools.combinations(rows, many):
                names = [name for name, _ in database if name is not None]
                if len(names) == len(set(names)):
                    yield database

    def fewest(self, most):
        """Return the number of rows of the smallest database that shows that one does not stand for the other, or None."""
        for database in self.databases(most):
            kinds = self.places(database)
            for weaving in self.ways[0]:
                if self.is_in(weaving, kinds) and not self.is_given(weaving, kinds, self.others(weaving)):
                    return len(database)
        return None

    def shows(self, rows):
        """Tell whether pairs of weavings show that one stands for the other."""
        if [weaving for weaving, _ in rows] != list(self.ways[0]):
            return False
        for weaving, others in rows:
            if not all(other in self.others(weaving) for other in others):
                return False
            free = [kind for kind in self.kinds if self.ways[0][weaving][kind] is not None]
            plain = [kind for kind in free if kind[0] is None]
            named = [[kind for kind in free if kind[0] == name] for name in self.names]
            for choice in itertools.product(*named):
                if not self.is_given(weaving, [*plain, *choice], others):
                    return False
        return True


def varied(chance, mix):
    """Return a mix of one transaction with a little change."""
    text = str(mix)
    if chance.random() < 0.3:
        return Mix.read(text.replace("begin", "begin repeatable").replace("repeatable repeatable", "repeatable"))
    if chance.random() < 0.3:
        return Mix.read(text.replace("begin\n", "begin\ntable\n"))
    word, changed = chance.choice([("\nlook", "\nshare"), ("\nsole", "\nlook"), ("a = 1", "a = 0"), ("a = 0", "a = 1"), ("\nundo", "\ncommit"),
                                   ("\ncommit", "\nlook where a = 1\ncommit"), ("where a = 1", "")])
    return Mix.read(text.replace(word, changed))


class JoinedTest(unittest.TestCase):
    def test_the_company_comes_first(self):
        mix = joined(COMPANY, PART)
        self.assertIsInstance(mix, Mix)
        self.assertEqual(mix, Mix(PART.table, [*COMPANY.sessions, *PART.sessions]))
        self.assertEqual([len(session) for session in mix.sessions], [1, 1, 1])
        self.assertEqual(str(mix.sessions[2][0].statements[0]), "remove where a = 2")
        self.assertEqual(str(mix.sessions[0][0].statements[0]), "sole where a = 2")

    def test_no_company(self):
        self.assertEqual(joined(None, PART), PART)
        self.assertEqual(joined(company=None, part=RAISED), RAISED)

    def test_arguments_stay(self):
        texts = str(COMPANY), str(PART)
        joined(COMPANY, PART)
        self.assertEqual((str(COMPANY), str(PART)), texts)

    def check(self, company, part, cls, field):
        with self.assertRaises(cls) as caught:
            joined(company, part)
        self.assertEqual(vars(caught.exception), field)
        for one, other in ((part, mix_of("a=2", "look / commit")), (mix_of("a=2", "look / commit"), part)):
            for call in (lambda: stands_for(one, other, company=company), lambda: is_standing(one, other, "any", company=company)):
                with self.assertRaises(cls):
                    call()

    def test_unequal_tables(self):
        self.check(COMPANY, mix_of("a=1", "look / commit"), BadMix, {"at": 2})
        self.check(mix_of("a=2", "look / commit"), mix_of("b=2", "look / commit", "look / commit"), BadMix, {"at": 1})
        self.check(COMPANY, mix_of("a=2 b=1", "look / commit"), BadMix, {"at": 2})

    def test_too_many(self):
        self.check(mix_of("a=2", *["look / commit"] * 3), mix_of("a=2", *["look / commit"] * 2), TooMany, {"what": "sessions"})
        self.check(mix_of("a=2", *["look / look / look / commit"] * 2), mix_of("a=2", "look / look / look / look / commit"), TooMany,
                   {"what": "events"})
        self.check(mix_of("a=2", "put i (0) / commit", "put k (0) / commit"), mix_of("a=2", "put j (0) / commit"), TooMany,
                   {"what": "names"})
        # A mix is within its bounds, so transactions can be too many in no joined mix.
        joined(mix_of("a=2", "mark / commit / mark / commit / mark / commit / mark / commit"),
               mix_of("a=2", "mark / commit / mark / commit / mark / commit / mark / commit"))

    def test_bad_tables_ahead_of_too_many(self):
        self.check(mix_of("a=2", *["look / commit"] * 3), mix_of("a=1", *["look / commit"] * 2), BadMix, {"at": 3})


class ExamplesTest(unittest.TestCase):
    def test_a_raised_part(self):
        standing = stands_for(RAISED, PART, company=COMPANY)
        self.assertIsInstance(standing, Standing)
        self.assertIs(bool(standing), False)
        self.assertEqual(len(standing), 2)
        word, weaving, database = standing.certificate
        self.assertEqual(word, "fails")
        self.assertEqual(sorted(database), [(None, (0,)), (None, (2,))])
        mix = joined(COMPANY, RAISED)
        self.assertEqual([way(mix, weaving, kind).end for kind in database],
                         [{(0,): (1,), (2,): None}[values] for _, values in database])
        self.assertTrue(is_standing(RAISED, PART, standing.certificate, company=COMPANY))
        self.assertFalse(stands_for(RAISED, PART, company=COMPANY, strict=True))

    def test_a_part_that_begins_with_table(self):
        for company in (COMPANY, None, mix_of("a=2", "begin repeatable / look / look where a = 1 / commit", "put k (1) / undo")):
            for returns, strict in READINGS:
                standing = stands_for(TABLED, PART, company=company, returns=returns, strict=strict)
                self.assertIs(bool(standing), True)
                self.assertEqual(len(standing), 0)
                self.assertEqual(standing.certificate[0], "stands")
                weavings = [weaving for weaving in Weavings(joined(company, TABLED)).each() if is_possible(joined(company, TABLED), weaving)]
                self.assertEqual([weaving for weaving, _ in standing.certificate[1]], weavings)
        self.assertFalse(stands_for(PART, TABLED, company=COMPANY, returns=True, strict=True))

    def test_one_more_share(self):
        part = mix_of("a=2", "change a = a + 1 where a < 2 / remove where a = 1 / commit")
        more = mix_of("a=2", "change a = a + 1 where a < 2 / share where a = 0 / remove where a = 1 / commit")
        for company in (None, COMPANY, mix_of("a=2", "put k (0) / change a = 1 where name = k / commit")):
            for returns, strict in READINGS:
                self.assertTrue(stands_for(more, part, company=company, returns=returns, strict=strict))


class StandsForTest(unittest.TestCase):
    def check(self, one, other, company, returns, strict, most):
        """Compare a standing with what results say; return it."""
        standing = stands_for(one, other, company=company, returns=returns, strict=strict)
        told = Comparison(one, other, company, returns, strict)
        with self.subTest(one=str(one), other=str(other), company=str(company), returns=returns, strict=strict):
            fewest = told.fewest(most)
            if standing:
                self.assertIsNone(fewest)
                self.assertEqual((standing.certificate[0], len(standing)), ("stands", 0))
                self.assertTrue(told.shows(standing.certificate[1]))
            else:
                word, weaving, database = standing.certificate
                self.assertEqual((word, len(standing)), ("fails", len(database)))
                self.assertEqual(len(standing) if len(standing) <= most else None, fewest)
                kinds = told.places(database)
                self.assertTrue(told.is_in(weaving, kinds))
                self.assertFalse(told.is_given(weaving, kinds, told.others(weaving)))
            self.assertTrue(is_standing(one, other, standing.certificate, company=company, returns=returns, strict=strict))
        return standing

    def test_without_company(self):
        # Nobody looks, so only the rows at the end count.
        one = mix_of("a=2", "look / change a = 1 where a = 0 / commit")
        other = mix_of("a=2", "change a = 1 where a = 0 / commit")
        for returns, strict in READINGS:
            self.assertTrue(self.check(one, other, None, returns, strict, 3))
            self.assertTrue(self.check(other, one, None, returns, strict, 3))
            standing = self.check(other, mix_of("a=2", "look / commit"), None, returns, strict, 3)
            self.assertEqual((bool(standing), len(standing)), (False, 1))
            self.assertTrue(self.check(other, other, None, returns, strict, 3))

    def test_what_the_company_returns_counts_only_with_returned_rows(self):
        one = mix_of("a=2", "change a = 1 where a = 0 / commit / change a = 0 where a = 1 / commit")
        other = mix_of("a=2", "change a = 0 where a = 1 / commit")
        company = mix_of("a=2", "look where a = 1 / commit")
        self.assertFalse(self.check(other, one, company, True, True, 3) and self.check(one, other, company, True, True, 3))
        self.assertTrue(self.check(one, other, company, False, True, 3))
        standing = self.check(mix_of("a=2", "change a = 1 where a = 0 / commit / change a = 0 where a = 1 / commit"), other,
                              mix_of("a=2", "look where a = 1 / look where a = 0 / commit"), True, False, 3)
        self.assertEqual((bool(standing), len(standing)), (False, 1))

    def test_what_the_parts_return_does_not_count(self):
        company = mix_of("a=2", "change a = 1 / commit")
        self.assertTrue(self.check(mix_of("a=2", "look / commit"), mix_of("a=2", "look where a = 0 / look / commit"), company, True, True, 3))
        self.assertTrue(self.check(mix_of("a=2", "look / commit"), mix_of("a=2", "mark / commit"), company, True, True, 3))

    def test_strictly_and_not(self):
        # What the one part inserts ahead of the company's look, its second session can insert as well, but not behind the look.
        one = mix_of("a=2", "put k (1) or change a = 1 / commit")
        other = mix_of("a=2", "look / commit")
        company = mix_of("a=2", "look where name = k / commit", "put k (1) or change a = 1 / commit")
        standing = self.check(one, other, company, True, True, 2)
        self.assertEqual((bool(standing), standing.certificate[2]), (False, ()))
        self.assertTrue(self.check(one, other, company, True, False, 2))
        self.assertTrue(self.check(one, other, company, False, True, 2))
        certificate = stands_for(one, other, company=company).certificate
        self.assertFalse(is_standing(one, other, certificate, company=company, strict=True))
        self.assertFalse(is_standing(one, other, standing.certificate, company=company))
        # Without a company there are no events to be in another order.
        for strict in (True, False):
            self.assertFalse(self.check(one, other, None, True, strict, 2))
            self.assertTrue(self.check(one, one, None, True, strict, 2))

    def test_names_that_only_one_mentions(self):
        puts = mix_of("a=1", "put k (0) / commit")
        looks = mix_of("a=1", "look / commit")
        company = mix_of("a=1", "look where a = 0 / commit")
        for returns, strict in READINGS:
            standing = self.check(puts, looks, company, returns, strict, 2)
            self.assertEqual((bool(standing), len(standing), standing.certificate[2]), (False, 0, ()))
            standing = self.check(looks, puts, company, returns, strict, 2)
            self.assertEqual((bool(standing), standing.certificate[2]), (False, ()))
        named = mix_of("a=1", "change a = 1 where name != k / commit")
        plain = mix_of("a=1", "change a = 1 / commit")
        for one, other in ((named, plain), (plain, named)):
            standing = self.check(one, other, company, True, True, 2)
            self.assertEqual(standing.certificate[2], (("k", (0,)),))
        both = mix_of("a=1", "change a = 1 where name = k or name != k / commit")
        self.assertTrue(self.check(both, plain, company, True, True, 2))
        self.assertTrue(self.check(plain, both, company, True, True, 2))
        self.assertTrue(self.check(plain, both, mix_of("a=1", "put j (0) / commit"), True, True, 2))

    def test_a_name_that_bars(self):
        one = mix_of("a=1", "put k (0) / look / commit")
        company = mix_of("a=1", "put k (1) / look / commit")
        for other in (one, mix_of("a=1", "put k (0) / commit"), mix_of("a=1", "table / put k (0) / commit")):
            for returns, strict in READINGS:
                self.check(one, other, company, returns, strict, 2)
                self.check(other, one, company, returns, strict, 2)
        self.assertIn((), [others for _, others in stands_for(one, one, company=company).certificate[1]])

    def test_random_parts(self):
        chance = random.Random(35)
        counts = {}
        for _ in range(900):
            one = mix_of("a=2", lively_session(chance, chance.choice([1, 2])))
            other = varied(chance, one) if chance.random() < 0.5 else mix_of("a=2", lively_session(chance, chance.choice([1, 2])))
            company = None if chance.random() < 0.1 else mix_of("a=2", lively_session(chance, chance.choice([1, 2])))
            returns, strict = chance.choice(READINGS)
            standing = stands_for(one, other, company=company, returns=returns, strict=strict)
            key = ("stands" if standing else "fails", min(len(standing), 2))
            if counts.get(key, 0) < 20:
                counts[key] = counts.get(key, 0) + 1
                self.check(one, other, company, returns, strict, 3)
        self.assertGreaterEqual(min(counts[key] for key in (("stands", 0), ("fails", 0), ("fails", 1))), 20)
        self.assertGreaterEqual(counts[("fails", 2)], 1)


class BoundsTest(unittest.TestCase):
    def check(self, what, *parts, **more):
        for call in (lambda: stands_for(*parts, **more), lambda: is_standing(*parts, "any", **more)):
            with self.assertRaises(TooMany) as caught:
                call()
            self.assertEqual(caught.exception.what, what)

    def test_too_many_names(self):
        one, other = mix_of("a=2", "put i (0) / put j (0) / commit"), mix_of("a=2", "put k (0) / commit")
        self.check("names", one, other)
        self.check("names", other, one)
        company = mix_of("a=2", "put i (0) / commit")
        self.check("names", mix_of("a=2", "put j (0) / commit"), other, company=company)
        stands_for(mix_of("a=2", "put i (0) / put k (0) / commit"), other)
        stands_for(mix_of("a=2", "put i (0) / commit"), other, company=company)

    def test_too_many_ways(self):
        small = mix_of("a=1", "look / commit")
        # 1260 weavings, with 16 kinds too many.
        company = mix_of("a=3 b=3", "look / commit", "look / look / commit")
        large = mix_of("a=3 b=3", "look / look / look / commit")
        little = mix_of("a=3 b=3", "look / commit")
        self.check("ways", large, little, company=company)
        self.check("ways", little, large, company=company)
        self.assertTrue(stands_for(little, little, company=company))
        company, large = (Mix.read(str(mix).replace("a=3 b=3", "a=3 b=2")) for mix in (company, large))
        self.assertEqual(len(Weavings(joined(company, large))) * 12, 15120)
        self.assertTrue(stands_for(large, large, company=company))
        # A name of the other part alone makes 25 kinds of 12.
        self.check("ways", large, mix_of("a=3 b=2", "look where name = k / commit"), company=company)
        self.assertTrue(stands_for(small, small))

    def test_names_ahead_of_ways_and_joined_ahead_of_both(self):
        company = mix_of("a=3 b=3", "look / commit", "look / look / commit")
        one = mix_of("a=3 b=3", "put i (0, 0) / put j (0, 0) / look / commit")
        other = mix_of("a=3 b=3", "put k (0, 0) / look / look / commit")
        self.check("names", one, other, company=company)
        self.check("sessions", one, mix_of("a=3 b=3", "look / commit", "look / commit", "look / commit"), company=company)
        self.check("events", mix_of("a=3 b=3", *["look / look / look / look / commit"] * 2), other, company=company)
        with self.assertRaises(BadMix) as caught:
            stands_for(one, mix_of("a=1", "look / commit"), company=company)
        self.assertEqual(caught.exception.at, 2)
        # The errors of the one part come ahead of those of the other.
        self.check("events", mix_of("a=3 b=3", *["look / look / look / look / commit"] * 2), mix_of("a=1", "look / commit"), company=company)


class ObjectTest(unittest.TestCase):
    def test_parameters_by_name(self):
        told = stands_for(other=PART, one=RAISED, strict=False, returns=True, company=COMPANY)
        self.assertEqual(told.certificate, stands_for(RAISED, PART, company=COMPANY).certificate)
        with self.assertRaises(TypeError):
            stands_for(PART, PART, COMPANY)
        with self.assertRaises(TypeError):
            is_standing(PART, PART, "any", COMPANY)
        self.assertTrue(is_standing(thing=told.certificate, other=PART, one=RAISED, strict=False, returns=True, company=COMPANY))

    def test_it_is_equal_to_nothing_else(self):
        standing = stands_for(PART, PART)
        for thing in [*ANY, standing.certificate, stands_for(PART, RAISED)]:
            self.assertFalse(standing == thing)

    def test_mixes_of_objects(self):
        table = Table([("a", 2)])
        part = Mix.of(table, [Transaction([Statement("remove where a = 2", table), Statement("remove where a = 1", table)])])
        self.assertEqual(stands_for(part, PART, company=COMPANY).certificate, stands_for(PART, PART, company=COMPANY).certificate)


if __name__ == "__main__":
    unittest.main()
