"""Certificates of standings: which values are some, and which are none."""

import random
import unittest

from newestrow.looker import is_standing
from newestrow.replacing import joined, stands_for
from newestrow.weavings import Weavings, is_possible
from building import ANY, lively_session, mix_of, with_parts_replaced
from test_replacing import COMPANY, PART, RAISED, READINGS, Comparison

# Few weavings, so that all certificates can be bent everywhere.
LOOK = mix_of("a=1", "look / commit")
ONE = mix_of("a=1", "change a = 1 where a = 0 / commit")
OTHER = mix_of("a=1", "share / change a = 1 / commit")


class StandsTest(unittest.TestCase):
    def setUp(self):
        self.certificate = stands_for(ONE, OTHER, company=LOOK).certificate
        self.rows = self.certificate[1]
        self.others = [weaving for weaving in Weavings(joined(LOOK, OTHER)).each() if is_possible(joined(LOOK, OTHER), weaving)]

    def check(self, rows, wanted, one=ONE, other=OTHER, company=LOOK, **reading):
        self.assertIs(is_standing(one, other, ("stands", tuple(rows)), company=company, **reading), wanted, rows)

    def test_as_told(self):
        for returns, strict in READINGS:
            standing = stands_for(ONE, OTHER, company=LOOK, returns=returns, strict=strict)
            self.assertTrue(standing)
            self.check(standing.certificate[1], True, returns=returns, strict=strict)

    def test_more_weavings_and_others(self):
        every = tuple(self.others)
        self.check([(weaving, every) for weaving, _ in self.rows], True)
        self.check([(weaving, every[::-1]) for weaving, _ in self.rows], True)
        self.check([(weaving, others * 3) for weaving, others in self.rows], True)
        told = Comparison(ONE, OTHER, LOOK, True, False)
        for weaving, others in self.rows:
            at = [row[0] for row in self.rows].index(weaving)
            for another in self.others:
                rows = (*self.rows[:at], (weaving, (another,)), *self.rows[at + 1:])
                self.check(rows, told.shows(rows))

    def test_strictly_only_weavings_with_the_company_in_the_same_order(self):
        company = mix_of("a=1", "look / commit", "look / commit")
        certificate = stands_for(ONE, OTHER, company=company, strict=True).certificate
        self.check(certificate[1], True, company=company, strict=True)
        every = [weaving for weaving in Weavings(joined(company, OTHER)).each()]
        loose = [(weaving, tuple(every)) for weaving, _ in certificate[1]]
        self.check(loose, True, company=company)
        self.check(loose, False, company=company, strict=True)
        tight = [(weaving, tuple(other for other in every if [n for n in other if n < 2] == [n for n in weaving if n < 2]))
                 for weaving, _ in certificate[1]]
        self.check(tight, True, company=company, strict=True)

    def test_rows_left_out_or_in_another_order(self):
        for at in range(len(self.rows)):
            self.check(self.rows[:at] + self.rows[at + 1:], False)
            self.check(self.rows[:at] + self.rows[at:at + 1] * 2 + self.rows[at + 1:], False)
            self.check((*self.rows[:at], (self.rows[at][0], ()), *self.rows[at + 1:]), False)
        self.check(self.rows[::-1], False)
        self.check((), False)

    def test_weavings_that_are_not_possible(self):
        other = mix_of("a=1", "table / change a = 1 / commit")
        company = mix_of("a=1", "share where a = 0 / commit")
        certificate = stands_for(ONE, other, company=company).certificate
        self.check(certificate[1], True, other=other, company=company)
        wrong = next(weaving for weaving in Weavings(joined(company, other)).each() if not is_possible(joined(company, other), weaving))
        self.check([(weaving, (*others, wrong)) for weaving, others in certificate[1]], False, other=other, company=company)
        one = other
        certificate = stands_for(one, ONE, company=company).certificate
        self.check(certificate[1], True, one, ONE, company)
        every = tuple(Weavings(joined(company, ONE)).each())
        self.check([(weaving, every) for weaving in Weavings(joined(company, one)).each()], False, one, ONE, company)
        self.check([(weaving, every) for weaving in Weavings(joined(company, one)).each() if is_possible(joined(company, one), weaving)],
                   True, one, ONE, company)

    def test_values_bent_in_each_place(self):
        told = Comparison(ONE, OTHER, LOOK, True, False)
        for bent in with_parts_replaced(self.certificate, ANY):
            wanted = False
            if isinstance(bent, tuple) and len(bent) == 2 and bent[0] == "stands" and "True" not in repr(bent) and "False" not in repr(bent) \
                    and "[" not in repr(bent):
                try:
                    wanted = told.shows(bent[1])
                except (TypeError, ValueError):
                    wanted = False
            self.assertIs(is_standing(ONE, OTHER, bent, company=LOOK), wanted, bent)

    def test_one_weaving_is_not_enough_for_all_choices(self):
        # What the company's `put` returns tells whether k was there: then the part can have come first in other weavings only.
        one = mix_of("a=1", "put k (0) or change a = 1 / commit")
        company = mix_of("a=1", "remove where name = k / commit")
        certificate = stands_for(one, one, company=company).certificate
        told = Comparison(one, one, company, True, False)
        found = {True: 0, False: 0}
        for at, (weaving, others) in enumerate(certificate[1]):
            for kept in others:
                rows = (*certificate[1][:at], (weaving, (kept,)), *certificate[1][at + 1:])
                wanted = told.shows(rows)
                found[wanted] += 1
                self.check(rows, wanted, one, one, company)
        self.assertGreater(min(found.values()), 0)


class FailsTest(unittest.TestCase):
    """A part that changes 0 to 1, which nothing else does; rows with 2 bar it where it overlaps with the company."""

    def setUp(self):
        self.company = mix_of("a=2", "sole where a = 2 / look / commit")
        self.one = mix_of("a=2", "change a = 1 where a = 0 / sole where a = 2 / commit")
        self.other = mix_of("a=2", "change a = 1 where a = 0 and name = k / commit")
        self.told = Comparison(self.one, self.other, self.company, True, False)

    def check(self, weaving, database, wanted, **reading):
        thing = ("fails", weaving, database)
        self.assertIs(is_standing(self.one, self.other, thing, company=self.company, **reading), wanted, (weaving, database))

    def wanted(self, weaving, database):
        kinds = self.told.places(database)
        return self.told.is_in(weaving, kinds) and not self.told.is_given(weaving, kinds, self.told.others(weaving))

    def test_as_told_and_larger(self):
        certificate = stands_for(self.one, self.other, company=self.company).certificate
        self.assertEqual(certificate[2], ((None, (0,)),))
        row = (None, (0,))
        for weaving in self.told.ways[0]:
            for database in ((row,), (row, row), (row,) * 80, (row, ("k", (0,))), (("zz", (0,)), ("yy", (1,))), (row, ("k", (1,)), (None, (1,)))):
                self.check(weaving, database, True)
                self.check(weaving, database, True, strict=True)
                self.check(weaving, database, True, returns=False)
            for database in ((), (("k", (0,)),), ((None, (1,)),)):
                self.check(weaving, database, False)

    def test_the_example_of_the_document(self):
        certificate = stands_for(RAISED, PART, company=COMPANY).certificate
        for thing in (certificate, (*certificate[:2], certificate[2][::-1]), (*certificate[:2], certificate[2] * 40)):
            self.assertTrue(is_standing(RAISED, PART, thing, company=COMPANY))
        self.assertFalse(is_standing(RAISED, PART, certificate, company=COMPANY, returns=False))
        for at in range(2):
            self.assertFalse(is_standing(RAISED, PART, (*certificate[:2], certificate[2][at:at + 1]), company=COMPANY))

    def test_a_database_that_bars(self):
        found = {True: 0, False: 0}
        for weaving in self.told.ways[0]:
            for database in (((None, (0,)), (None, (2,))), (("k", (2,)), (None, (0,)))):
                wanted = self.wanted(weaving, database)
                found[wanted] += 1
                self.check(weaving, database, wanted)
        self.assertGreater(min(found.values()), 5)

    def test_wrong_databases(self):
        row, weaving = (None, (0,)), (0, 0, 0, 1, 1, 1)
        self.check(weaving, (row,) * 81, False)
        self.check(weaving, (row, ("k", (0,)), ("k", (0,))), False)
        for thing in [*ANY, [row]]:
            self.check(weaving, thing, False)
            self.check(weaving, (row, thing), False)

    def test_wrong_weavings(self):
        database = ((None, (0,)),)
        for thing in [*ANY, [0, 0, 0, 1, 1, 1], (0, 0, 0, 1, 1), (0, 0, 0, 1, 1, 1, 1), (False, 0, 0, 1, 1, 1), (0, 0, 0, 1, 1, True), (0, 0, 0, 1, 1, 2)]:
            self.check(thing, database, False)
        self.one = mix_of("a=2", "table / change a = 1 where a = 0 / commit")
        self.check((0, 0, 0, 1, 1, 1), database, True)
        self.check((0, 1, 1, 1, 0, 0), database, False)

    def test_values_bent_in_each_place(self):
        row, weaving = (None, (0,)), (0, 1, 0, 0, 1, 1)
        for bent in with_parts_replaced(("fails", weaving, (row, ("zz", (1,)))), [*ANY, row]):
            wanted = False
            if isinstance(bent, tuple) and len(bent) == 3 and bent[0] == "fails" and repr(bent[1]) == repr(weaving) \
                    and isinstance(bent[2], tuple) and all(is_row(row) for row in bent[2]):
                names = [name for name, _ in bent[2] if name is not None]
                wanted = len(names) == len(set(names)) and self.wanted(weaving, bent[2])
            self.assertIs(is_standing(self.one, self.other, bent, company=self.company), wanted, bent)

    def test_any_value(self):
        certificate = stands_for(self.one, self.other, company=self.company).certificate
        for one, other in ((self.one, self.other), (self.one, self.one)):
            for thing in [*ANY, ("stands",), ("fails",), ("stands", ()), ("fails", (), ()), ["stands", ()], "stands", ("stands", (), ()),
                          ("fails", ()), ("safe", ()), (True, ()), (None, (), ()), list(certificate), ("unsafe", *certificate[1:]),
                          ("stands", *certificate[1:])]:
                self.assertIs(is_standing(one, other, thing, company=self.company), False)


def is_row(thing):
    """Tell whether a value is a row of a database over a=2, with one of the names that are tried."""
    return isinstance(thing, tuple) and len(thing) == 2 and thing[0] in (None, "zz", "a", "commit", "look", "k") \
        and repr(thing[1]) in ("(0,)", "(1,)", "(2,)")


class RandomTest(unittest.TestCase):
    def test_random_certificates(self):
        chance = random.Random(36)
        counts = {True: 0, False: 0}
        for _ in range(120):
            one, other, company = (mix_of("a=2", lively_session(chance, 1)) for _ in range(3))
            returns, strict = chance.choice(READINGS)
            told = Comparison(one, other, company, returns, strict)
            if len(told.names) > 2:
                continue
            for _ in range(3):
                rows = tuple(
                    (weaving, tuple(chance.choices(told.others(weaving), k=chance.randrange(1, 2 + len(told.others(weaving))))))
                    for weaving in told.ways[0]
                )
                wanted = told.shows(rows)
                counts[wanted] += 1
                self.assertIs(is_standing(one, other, ("stands", rows), company=company, returns=returns, strict=strict), wanted)
            for weaving in told.ways[0]:
                database = tuple(chance.choice(list(told.databases(2))))
                kinds = told.places(database)
                wanted = told.is_in(weaving, kinds) and not told.is_given(weaving, kinds, told.others(weaving))
                counts[wanted] += 1
                thing = ("fails", weaving, database)
                self.assertIs(is_standing(one, other, thing, company=company, returns=returns, strict=strict), wanted)
        self.assertGreater(min(counts.values()), 150)


if __name__ == "__main__":
    unittest.main()
