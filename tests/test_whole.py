"""The whole: runs of the engine against ways, verdicts, repairs, replacements and traces, over drawn mixes and databases."""

import itertools
import random
import unittest

from newestrow.conditions import Condition
from newestrow.engine import Database
from newestrow.errors import Bars
from newestrow.judging import judge
from newestrow.looker import is_certificate, is_standing
from newestrow.repairs import first_broken, least_raised, least_table, raised, with_table
from newestrow.replacing import joined, stands_for
from newestrow.results import serial_result
from newestrow.runs import drive, play
from newestrow.tracing import is_trace, trace
from newestrow.weavings import Weavings, is_possible, orders
from newestrow.ways import way
from building import lively_mix, lively_session, mix_of, result_or_none
from test_runs import random_database

READINGS = [(by, returns) for by in ("transactions", "statements") for returns in (True, False)]


def picks(chance):
    return [chance.randrange(60) for _ in range(40)]


def seen(found, returns):
    return (found.rows, found.returned) if returns else found.rows


def whole_runs(chance, mix, many):
    """Give runs in which the engine undid nothing, with their databases."""
    for _ in range(many):
        database = random_database(chance)
        run = drive(mix, database, picks(chance))
        if not run.undone:
            yield run, database


class RunsTest(unittest.TestCase):
    def test_runs_against_ways(self):
        chance = random.Random(101)
        for _ in range(250):
            mix = lively_mix(chance, 10 ** 9)
            database = random_database(chance)
            run = drive(mix, database, picks(chance))
            names = [name for name, _ in run.result.rows]
            mentioned = run.mix.names()
            for place, name in enumerate(names):
                values = database[place][1] if place < len(database) else None
                found = way(run.mix, run.weaving, (name if name in mentioned else None, values))
                self.assertEqual(found.end, run.result.rows[place][1])
                for unit, returned in found.returned.items():
                    self.assertEqual(dict(run.result.returned[unit]).get(place), returned)

    def test_each_row_goes_its_way_whatever_the_others_are(self):
        chance = random.Random(102)
        for _ in range(60):
            mix = lively_mix(chance, 60)
            database = random_database(chance)
            for weaving in Weavings(mix).each():
                found = result_or_none(mix, weaving, database)
                if found is None:
                    continue
                for place, entry in enumerate(database):
                    kept = tuple(row for row in database if row == entry or row[0] is not None)
                    alone = play(mix, weaving, kept).result
                    at = kept.index(entry)
                    self.assertEqual(alone.rows[at][1], found.rows[place][1])
                    for unit, rows in found.returned.items():
                        self.assertEqual(dict(alone.returned[unit]).get(at), dict(rows).get(place))

    def test_commits_write_what_versions_say(self):
        chance = random.Random(103)
        for _ in range(150):
            mix = lively_mix(chance, 10 ** 9)
            kind = chance.choice(mix.kinds())
            name, values = kind
            weavings = [weaving for weaving in Weavings(mix).each() if is_possible(mix, weaving)]
            weaving = chance.choice(weavings)
            try:
                found = way(mix, weaving, kind)
                result = result_or_none(mix, weaving, () if values is None else (kind,))
            except Bars:
                continue
            if result is None:
                continue
            database = Database(mix.table, [] if values is None else [kind])
            self.check_versions(mix, weaving, database, name, found)

    def check_versions(self, mix, weaving, database, name, found):
        """Follow a weaving with `do`, one statement at the end of its span, as far as this is the same."""
        versions = dict(found.versions)
        sessions = {}
        left = {number: [(transaction, index) for transaction in session for index in range(len(transaction.statements) + 1)]
                for number, session in enumerate(mix.sessions)}
        for position, number in enumerate(weaving):
            if number in sessions and sessions[number][1]:
                for target in sessions[number][1]:
                    sessions[number][0].visit(target)
            if number in sessions and sessions[number][2]:
                sessions[number][0].finish()
            while True:
                transaction, index = left[number].pop(0)
                if number not in sessions:
                    sessions[number] = [database.begin(level=transaction.level), [], False]
                if index == len(transaction.statements) or transaction.statements[index].word != "mark":
                    break
                sessions[number][0].do(transaction.statements[index])
            session = sessions[number]
            if index < len(transaction.statements):
                statement = transaction.statements[index]
                session[1], session[2] = session[0].start(statement), statement.word not in ("back", "table")
                continue
            getattr(session[0], transaction.ends)()
            del sessions[number]
            if position in versions:
                rows = [values for _, other, values in database.committed() if other == name]
                self.assertEqual(rows, [] if versions[position] is None else [versions[position]])


class VerdictsTest(unittest.TestCase):
    def test_verdicts_against_runs(self):
        chance = random.Random(104)
        counts = {True: 0, False: 0}
        for _ in range(350):
            mix = lively_mix(chance, 60)
            by, returns = chance.choice(READINGS)
            verdict = judge(mix, by=by, returns=returns)
            counts[bool(verdict)] += 1
            self.assertTrue(is_certificate(mix, verdict.certificate, by=by, returns=returns))
            if verdict:
                for run, database in whole_runs(chance, mix, 6):
                    explained = [seen(serial_result(mix, order, database), returns) for order in orders(mix, by=by)]
                    self.assertIn(seen(run.result, returns), explained, (str(mix), database, run.weaving))
                    given = dict(verdict.certificate[1])[run.weaving]
                    explained = [seen(serial_result(mix, order, database), returns) for order in given]
                    self.assertIn(seen(run.result, returns), explained)
            else:
                _, weaving, database = verdict.certificate
                run = play(mix, weaving, database)
                self.assertNotIn(seen(run.result, returns), [seen(serial_result(mix, order, database), returns) for order in orders(mix, by=by)])
        self.assertGreater(min(counts.values()), 20)

    def test_some_run_finds_the_example(self):
        chance = random.Random(105)
        mix = mix_of("a=2", "change a = a + 1 where a = 0 / commit", "change a = 0 where a = 1 / commit")
        database = ((None, (0,)), (None, (1,)))
        found = {drive(mix, database, picks(chance)).result.rows for _ in range(60)}
        self.assertIn(((None, (1,)), (None, (0,))), found)
        self.assertEqual(len(found), 3)


class RepairsTest(unittest.TestCase):
    def test_repairs_against_verdicts_and_runs(self):
        chance = random.Random(106)
        unsafe = 0
        for _ in range(400):
            mix = lively_mix(chance, 30)
            by, returns = chance.choice(READINGS)
            if judge(mix, by=by, returns=returns) and chance.random() < 0.9:
                continue
            unsafe += 1
            for least, change in ((least_raised, raised), (least_table, with_table)):
                if change is with_table and len(Weavings(mix)) > 20:
                    continue
                for chosen in least(mix, by=by, returns=returns):
                    repaired = change(mix, chosen)
                    self.assertTrue(judge(repaired, by=by, returns=returns))
                    for fewer in itertools.combinations(mix.transactions(), max(0, len(chosen) - 1)):
                        self.assertTrue(len(chosen) == 0 or not judge(change(mix, fewer), by=by, returns=returns))
                    for run, database in whole_runs(chance, repaired, 4):
                        explained = [seen(serial_result(repaired, order, database), returns) for order in orders(repaired, by=by)]
                        self.assertIn(seen(run.result, returns), explained)
        self.assertGreater(unsafe, 30)

    def test_conditions_against_runs(self):
        chance = random.Random(107)
        kept = 0
        for _ in range(150):
            mix = lively_mix(chance, 60)
            condition = Condition(chance.choice(["a = 0", "a < 2", "a > 0", "name = k or a = 1", "a != 1"]), mix.table)
            if first_broken(mix, condition) is not None:
                continue
            kept += 1
            mentioned = mix.names()
            for _ in range(5):
                # Names that the mix does not mention are none for it.
                database = tuple(row for row in random_database(chance)
                                 if condition(row[1], row[0]) and (row[0] is None or row[0] in mentioned))
                run = drive(mix, database, picks(chance))
                for name, values in run.result.rows:
                    self.assertTrue(values is None or condition(values, name))
        self.assertGreater(kept, 20)


class ReplacementsTest(unittest.TestCase):
    def test_replacements_against_runs(self):
        chance = random.Random(108)
        counts = {True: 0, False: 0}
        for _ in range(250):
            one = mix_of("a=2", lively_session(chance, chance.choice([1, 1, 2])))
            other = chance.choice([mix_of("a=2", lively_session(chance, 1)), one, raised(one, [(0, 0)])])
            company = mix_of("a=2", lively_session(chance, chance.choice([1, 2])))
            returns, strict = chance.choice([True, False]), chance.choice([True, False])
            standing = stands_for(one, other, company=company, returns=returns, strict=strict)
            self.assertTrue(is_standing(one, other, standing.certificate, company=company, returns=returns, strict=strict))
            counts[bool(standing)] += 1
            if standing:
                for run, database in whole_runs(chance, joined(company, one), 4):
                    self.assertTrue(self.is_given(run, database, joined(company, other), returns, strict))
            else:
                _, weaving, database = standing.certificate
                run = play(joined(company, one), weaving, database)
                self.assertFalse(self.is_given(run, database, joined(company, other), returns, strict))
        self.assertGreater(min(counts.values()), 50)

    def seen_by_company(self, run, returns):
        """Return what is seen of a run: rows by their names and places, without names that have no row and are not in the database."""
        found = run.result
        rows = {(name, None if name else place): values for place, (name, values) in enumerate(found.rows) if values is not None}
        if not returns:
            return rows
        keys = [(name, None if name else place) for place, (name, _) in enumerate(found.rows)]
        returned = {unit: {keys[place]: values for place, values in told} for unit, told in found.returned.items() if unit[0] == 0}
        return rows, returned

    def is_given(self, run, database, mix, returns, strict):
        """Tell whether some weaving of another mix gives the seen result of a run, by playing all of them."""
        wanted = self.seen_by_company(run, returns)
        for weaving in Weavings(mix).each():
            if result_or_none(mix, weaving, database) is not None \
                    and (not strict or [n for n in weaving if n == 0] == [n for n in run.weaving if n == 0]):
                if self.seen_by_company(play(mix, weaving, database), returns) == wanted:
                    return True
        return False


class TracesTest(unittest.TestCase):
    def history_of(self, chance, run, database):
        """Return accounts that tell some of what happened in a run."""
        accounts = []
        mentioned = run.mix.names()
        for place, (name, last) in enumerate(run.result.rows):
            first = database[place][1] if place < len(database) else None
            told = [(unit, dict(rows).get(place)) for unit, rows in run.result.returned.items()]
            told = chance.sample(told, chance.randrange(len(told) + 1))
            accounts.append((name if name in mentioned else None, chance.choice([first, "unknown"]), chance.choice([last, "unknown"]), tuple(told)))
        return tuple(accounts)

    def test_traces_against_runs(self):
        chance = random.Random(109)
        never = 0
        for _ in range(150):
            mix = lively_mix(chance, 60)
            for run, database in whole_runs(chance, mix, 3):
                history = self.history_of(chance, run, database)
                found = trace(mix, history)
                self.assertTrue(found)
                word, weaving, kinds = found.certificate
                self.assertEqual(word, "given")
                self.assertLessEqual(weaving, run.weaving)
                self.assertTrue(is_trace(mix, history, found.certificate))
                rows = tuple(kind for kind in kinds if kind[1] is not None)
                again = result_or_none(mix, weaving, rows)
                if again is not None:
                    played = play(mix, weaving, rows).result
                    ends = [values for kind, (_, values) in zip(rows, played.rows)]
                    lasts = [account[2] for account, kind in zip(history, kinds) if kind[1] is not None]
                    self.assertTrue(all(last in ("unknown", end) for last, end in zip(lasts, ends)))
                for by in ("transactions", "statements"):
                    explained = any(serial_result(mix, order, database) == run.result for order in orders(mix, by=by))
                    if explained:
                        self.assertTrue(trace(mix, history, by=by))
                    never += not trace(mix, history, by=by)
        self.assertGreater(never, 3)

    def test_unsafe_mixes_have_a_history_that_no_order_gives(self):
        chance = random.Random(110)
        many = 0
        for _ in range(300):
            mix = lively_mix(chance, 30)
            verdict = judge(mix)
            if verdict:
                continue
            many += 1
            _, weaving, database = verdict.certificate
            result = play(mix, weaving, database).result
            history = tuple(
                (name, database[place][1] if place < len(database) else None, last,
                 tuple((unit, dict(rows).get(place)) for unit, rows in result.returned.items()))
                for place, (name, last) in enumerate(result.rows)
            )
            self.assertFalse(trace(mix, history, by="transactions"))
            self.assertTrue(trace(mix, history))
            self.assertLessEqual(len(trace(mix, history, by="transactions")), len(result.rows))
        self.assertGreater(many, 20)


if __name__ == "__main__":
    unittest.main()
