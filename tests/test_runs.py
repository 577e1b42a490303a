"""Runs: by a weaving and by a list of integers."""

import random
import unittest

from newestrow.engine import Database
from newestrow.errors import BadDatabase, BadWeaving, Bars, Failed, NotPossible, Ring, Waits
from newestrow.mixes import Mix
from newestrow.results import Result, result
from newestrow.runs import Run, Runner, drive, play
from newestrow.weavings import Weavings, is_possible
from building import ANY, lively_mix, mix_of, result_or_none
from test_way_oracle import random_session

EXAMPLE = mix_of("a=2", "change a = a + 1 where a = 0 / commit", "change a = 0 where a = 1 / commit")


def random_database(chance, most=4):
    rows = [(None, (chance.randrange(3),)) for _ in range(chance.randrange(most))]
    rows += [(name, (chance.randrange(3),)) for name in ("k", "j") if chance.random() < 0.4]
    chance.shuffle(rows)
    return tuple(rows)


class PlayTest(unittest.TestCase):
    def test_the_example_of_the_document(self):
        run = play(EXAMPLE, (0, 1, 0, 1), ((None, (0,)), (None, (1,))))
        self.assertIsInstance(run, Run)
        self.assertIsInstance(run.result, Result)
        self.assertEqual(run.result.rows, ((None, (1,)), (None, (0,))))
        self.assertEqual((run.mix, run.weaving, run.undone), (EXAMPLE, (0, 1, 0, 1), ()))
        self.assertIsInstance(run.weaving, tuple)
        self.assertIsInstance(run.undone, tuple)
        # Four events, and each statement chooses one row.
        self.assertEqual(run.steps, 6)

    def test_steps(self):
        mix = mix_of("a=2", "mark / look / change a = 1 where a < 2 / back / put k (0) / table / commit", "look / undo")
        database = ((None, (0,)), (None, (1,)), (None, (2,)))
        for weaving in ((0, 0, 0, 0, 0, 0, 1, 1), (1, 0, 0, 0, 1, 0, 0, 0)):
            self.assertEqual(play(mix, weaving, database).steps, 8 + 2 + 1)
            self.assertEqual(play(mix, weaving, ()).steps, 8 + 1)

    def test_the_same_result_as_the_ways(self):
        for sessions in (
            ("remove where name = k / put k (1) / commit", "change a = a + 1 where a < 2 / commit"),
            ("begin repeatable / look / change a = 1 / commit", "put k (0) or change a = a + 1 / commit / remove / undo"),
            ("change a = 1 where a = 0 / commit", "change a = 2 where a = 1 / commit", "remove where a = 1 / commit"),
            ("put k (1) / commit", "begin repeatable / put k (2) or change a = 0 / commit", "sole where name = k / undo"),
            ("mark / share / back / change a = 2 / commit", "begin repeatable / share / share / commit"),
            ("table / remove where a = 1 / commit", "look / put k (1) / look / commit"),
        ):
            mix = mix_of("a=2", *sessions)
            for weaving in Weavings(mix).each():
                for database in ((), ((None, (1,)), (None, (0,)), (None, (1,))), (("k", (1,)), (None, (2,))), (("zz", (0,)), ("k", (0,)))):
                    wanted = result_or_none(mix, weaving, database)
                    if wanted is not None:
                        run = play(mix, weaving, database)
                        self.assertEqual(run.result, wanted)
                        self.assertEqual((run.mix, run.weaving, run.undone), (mix, weaving, ()))

    def test_errors_as_result(self):
        mix = mix_of("a=1", "table / sole / commit", "sole / look / commit")
        database = ((None, (0,)),)
        for weaving, rows, cls in (
            ([0, 0, 0, 1, 1, 1], ((9,),), BadWeaving), ((0, 0, 0, 1, 1), database, BadWeaving), ((0, 1, 0, 1, 0, 1), ("wrong",), NotPossible),
            ((0, 0, 0, 1, 1, 1), ("wrong",), BadDatabase), ((0, 0, 0, 1, 1, 1), list(database), BadDatabase),
            ((0, 0, 0, 1, 1, 1), database * 81, BadDatabase),
        ):
            self.check_same_error(mix, weaving, rows, cls)
        mix = mix_of("a=1", "sole / look / commit", "sole / look / commit")
        self.check_same_error(mix, (0, 1, 0, 1, 0, 1), database, Bars)
        self.check_same_error(mix, (0, 1, 0, 1, 0, 1), database + ("wrong",), BadDatabase)
        for thing in ANY:
            if not isinstance(thing, tuple) or thing:
                self.check_same_error(mix, (0, 0, 0, 1, 1, 1), thing, BadDatabase)
            self.check_same_error(mix, thing, database, BadWeaving)

    def check_same_error(self, mix, weaving, database, cls):
        fields = []
        for call in (play, result):
            with self.assertRaises(cls) as caught:
                call(mix, weaving, database)
            fields.append(vars(caught.exception))
        self.assertEqual(*fields)

    def test_random_runs(self):
        chance = random.Random(32)
        many = 0
        for _ in range(150):
            sessions = chance.choice([1, 2, 3, 4])
            mix = mix_of("a=2", *[random_session(chance, 12 // sessions) for _ in range(sessions)])
            events = [number for number, session in enumerate(mix.sessions) for transaction in session for _ in range(len(transaction))]
            database = random_database(chance)
            for _ in range(6):
                chance.shuffle(events)
                wanted = result_or_none(mix, tuple(events), database)
                if wanted is not None:
                    many += 1
                    run = play(mix, tuple(events), database)
                    self.assertEqual((run.result, run.mix, run.weaving, run.undone), (wanted, mix, tuple(events), ()))
        self.assertGreater(many, 100)


def driven(mix, database, picks):
    """Do what point 32 says with the engine, and return the undone transactions, the weaving, the mix and the steps.

    The weaving and the mix are worked out from texts; nothing of the package but the engine is used.
    """
    engine = Database(mix.table, list(database))
    actors = [{"left": list(enumerate(session)), "open": None, "targets": [], "under_way": False, "waits": False} for session in mix.sessions]
    events, undone, picks = [], [], list(picks)
    steps = 0

    def wake(number):
        for other, actor in enumerate(actors):
            actor["waits"] = actor["waits"] and other == number

    while any(actor["left"] for actor in actors):
        deeds = []
        for number, actor in enumerate(actors):
            if actor["left"] and not actor["waits"]:
                deeds += [(number, target) for target in sorted(actor["targets"])] if actor["targets"] else [(number, "event")]
        number, target = deeds[(picks.pop(0) if picks else 0) % len(deeds)]
        steps += 1
        actor = actors[number]
        at, transaction = actor["left"][0]
        if actor["open"] is None:
            actor["open"], actor["statements"] = engine.begin(level=transaction.level), list(transaction.statements)
        session = actor["open"]
        try:
            if target != "event":
                session.visit(target)
                actor["targets"].remove(target)
                continue
            if actor["under_way"]:
                session.finish()
                actor["under_way"] = False
            while actor["statements"] and actor["statements"][0].word == "mark":
                session.do(actor["statements"].pop(0))
            if not actor["statements"]:
                getattr(session, transaction.ends)()
                actor["left"].pop(0)
                actor["open"] = None
                wake(number)
            else:
                actor["targets"] = session.start(actor["statements"][0])
                actor["under_way"] = actor["statements"][0].word not in ("back", "table")
                if actor["statements"].pop(0).word == "back":
                    wake(number)
            events.append((number, at))
        except Waits:
            actor["waits"] = True
        except (Ring, Failed):
            undone.append((number, at))
            actor["left"].pop(0)
            actor.update(open=None, targets=[], under_way=False)
            wake(number)
    rest = [[transaction for at, transaction in enumerate(session) if (number, at) not in undone] for number, session in enumerate(mix.sessions)]
    numbers = [number for number, session in enumerate(rest) if session]
    weaving = tuple(numbers.index(number) for number, at in events if (number, at) not in undone)
    return tuple(undone), weaving, Mix(mix.table, [session for session in rest if session]), steps


class DriveTest(unittest.TestCase):
    def check(self, mix, database, picks):
        """Compare a run with what the document says of it; return it."""
        run = drive(mix, database, picks)
        self.assertIsInstance(run, Run)
        self.assertEqual((run.undone, run.weaving, run.mix, run.steps), driven(mix, database, picks))
        self.assertTrue(is_possible(run.mix, run.weaving))
        self.assertEqual(run.result, result(run.mix, run.weaving, database))
        return run

    def test_without_picks(self):
        run = self.check(EXAMPLE, ((None, (0,)), (None, (1,))), [])
        self.assertEqual((run.mix, run.weaving, run.undone, run.steps), (EXAMPLE, (0, 0, 1, 1), (), 7))
        self.assertEqual(run.result.rows, ((None, (0,)), (None, (0,))))

    def test_deeds_in_their_order(self):
        mix = mix_of("a=2", "change a = 1 / commit", "look / commit")
        database = ((None, (0,)), (None, (2,)), (None, (0,)))
        # After the first event there are three visits, then the other session's event.
        self.assertEqual(self.check(mix, database, [0, 3, 3, 0, 0, 0, 0]).weaving, (0, 1, 1, 0))
        self.assertEqual(self.check(mix, database, [0, 0, 2, 0, 1, 1]).weaving, (0, 1, 1, 0))
        self.assertEqual(self.check(mix, database, [0, 0, 1, 1, 0, 0]).weaving, (0, 1, 0, 1))
        self.assertEqual(self.check(mix, database, [1, 1, 0, 1]).weaving, (1, 1, 0, 0))
        self.assertEqual(self.check(mix, (), [1, 0, 1, 0]).weaving, (1, 0, 1, 0))

    def test_integers_of_any_size(self):
        database = ((None, (0,)), (None, (1,)))
        # Two deeds at first, then as the picks say, modulo the number of deeds.
        self.assertEqual(self.check(EXAMPLE, database, [10 ** 29 + 1]).weaving, self.check(EXAMPLE, database, [1]).weaving)
        self.assertEqual(self.check(EXAMPLE, database, [-1]).weaving, self.check(EXAMPLE, database, [1]).weaving)
        self.assertEqual(self.check(EXAMPLE, database, [-2]).weaving, self.check(EXAMPLE, database, []).weaving)
        self.assertEqual(self.check(EXAMPLE, database, [1] + [0] * 600).weaving, self.check(EXAMPLE, database, [1]).weaving)
        self.assertEqual(self.check(EXAMPLE, database, [-10 ** 29]).weaving, self.check(EXAMPLE, database, [0]).weaving)

    def test_waits(self):
        mix = mix_of("a=2", "sole / look / commit", "sole / commit")
        database = ((None, (0,)),)
        # 0 starts and visits, 1 starts, 1 visits in vain: then only 0 has deeds, to its end.
        run = self.check(mix, database, [0, 0, 1, 1, 0, 0, 0, 0])
        self.assertEqual((run.weaving, run.undone), ((0, 1, 0, 0, 1), ()))
        self.assertEqual(run.steps, 5 + 2 + 1)
        mix = mix_of("a=2", "table / commit", "sole / commit", "look / commit")
        run = self.check(mix, (), [0, 1, 1, 1, 0, 0])
        self.assertEqual((run.weaving, run.steps), ((0, 2, 2, 0, 1, 1), 7))

    def test_another_end_wakes_whichever_it_is(self):
        mix = mix_of("a=2", "table / look / look / commit", "sole / commit", "mark / look / undo", "mark / look / back / commit")
        # 1 waits for 0, and tries again when 2 has ended and when 3 has gone back, in vain.
        run = self.check(mix, (), [0, 1, 1, 1, 1, 1, 2, 1, 0, 0, 0])
        self.assertEqual(run.undone, ())
        self.assertGreater(run.steps, len(mix) + 1)
        chance = random.Random(33)
        most = max(self.check(mix, (), [chance.randrange(60) for _ in range(30)]).steps for _ in range(150))
        # The table is free when 0 has ended: until then 1 can try three times.
        self.assertEqual(most, len(mix) + 3)

    def test_the_own_back_does_not_wake(self):
        mix = mix_of("a=2", "mark / look / back / table / commit", "sole where false / look / commit")
        run = self.check(mix, (), [2, 1, 0, 0, 0, 0])
        self.assertEqual(run.undone, ())

    def test_what_the_engine_undoes(self):
        mix = mix_of("a=2", "share / change a = 1 / commit / look / commit", "share / change a = 2 / commit")
        database = ((None, (0,)),)
        # Both share the row; 0 waits for 1, and 1 would wait for 0.
        run = self.check(mix, database, [0, 0, 1, 1, 0, 0, 0, 0, 0])
        self.assertEqual(run.undone, ((1, 0),))
        self.assertEqual(run.mix, mix_of("a=2", "share / change a = 1 / commit / look / commit"))
        self.assertEqual(run.weaving, (0,) * 5)
        self.assertEqual(run.result.rows, ((None, (1,)),))
        # The other way round: the first transaction of session 0 is left out, and its second one is counted anew.
        run = self.check(mix, database, [0, 0, 1, 1, 1, 1, 0, 0, 0, 0])
        self.assertEqual(run.undone, ((0, 0),))
        self.assertEqual(run.mix, mix_of("a=2", "look / commit", "share / change a = 2 / commit"))
        self.assertEqual(sorted(run.result.returned), [(0, 0, 0), (1, 0, 0), (1, 0, 1)])

    def test_a_session_that_is_left_out(self):
        mix = mix_of("a=2", "begin repeatable / look / change a = 1 / commit", "change a = 0 / commit", "look / commit")
        database = ((None, (2,)), ("k", (1,)))
        run = self.check(mix, database, [0, 1, 1, 1, 1, 0, 0, 0, 0])
        self.assertEqual(run.undone, ((0, 0),))
        self.assertEqual(run.mix, mix_of("a=2", "change a = 0 / commit", "look / commit"))
        self.assertEqual(set(run.weaving), {0, 1})
        self.assertEqual(run.result.rows, ((None, (0,)), ("k", (0,))))

    def test_places_of_names_that_are_left(self):
        # Only the transaction that is undone mentions k.
        mix = mix_of("a=2", "begin repeatable / put k (1) / change a = 1 where name != k / commit", "change a = 0 / put j (2) / commit")
        run = self.check(mix, ((None, (2,)),), [0, 1, 1, 1, 1, 1, 0, 0, 0, 0, 0])
        self.assertEqual(run.undone, ((0, 0),))
        self.assertEqual(run.result.rows, ((None, (0,)), ("j", (2,))))

    def test_several_undone_in_their_order(self):
        chance = random.Random(34)
        mix = mix_of("a=2", *["begin repeatable / share / change a = a + 1 / commit"] * 3)
        seen = set()
        for _ in range(300):
            seen.add(self.check(mix, ((None, (0,)), (None, (1,))), [chance.randrange(60) for _ in range(20)]).undone)
        self.assertTrue({((0, 0), (1, 0)), ((1, 0), (0, 0)), ((2, 0), (0, 0))} <= seen)

    def test_marks_with_the_event_behind(self):
        mix = mix_of("a=2", "mark / look / mark / mark / commit", "mark / commit")
        run = self.check(mix, ((None, (0,)),), [1, 0])
        self.assertEqual((run.weaving, run.steps), ((1, 0, 0), 3))
        # A mark is executed even if the event behind it has to wait; that changes nothing for others.
        mix = mix_of("a=2", "change a = 1 / mark / table / back / commit", "look / sole where false / commit")
        for picks in ([1, 1, 0, 0, 0, 0], [0, 0, 1, 2, 0, 0, 0], [0, 0, 0, 1, 1, 1]):
            self.check(mix, ((None, (0,)),), picks)

    def test_random_runs(self):
        chance = random.Random(31)
        undone = 0
        for _ in range(400):
            sessions = chance.choice([1, 2, 3, 3, 4])
            mix = mix_of("a=2", *[random_session(chance, 12 // sessions) for _ in range(sessions)])
            database = random_database(chance)
            for _ in range(2):
                picks = [chance.choice([chance.randrange(10), chance.randrange(10 ** 29), -chance.randrange(10)]) for _ in range(chance.randrange(50))]
                undone += len(self.check(mix, database, picks).undone)
        self.assertGreater(undone, 100)

    def test_lively_runs(self):
        chance = random.Random(30)
        counts = {}
        for _ in range(400):
            mix = lively_mix(chance, 10 ** 9)
            run = self.check(mix, random_database(chance), [chance.randrange(60) for _ in range(30)])
            counts[len(run.undone)] = counts.get(len(run.undone), 0) + 1
        self.assertGreater(counts[1], 20)

    def test_wrong_databases(self):
        for thing in ANY:
            if thing != ():
                with self.assertRaises(BadDatabase) as caught:
                    drive(EXAMPLE, thing, [])
                self.assertEqual(caught.exception.at, 0 if isinstance(thing, tuple) else -1)
        for database, at in (([(None, (0,))], -1), (((None, (0,)),) * 81, -1), (((None, (0,)), ("k", (0,)), ("k", (0,))), 2)):
            with self.assertRaises(BadDatabase) as caught:
                drive(EXAMPLE, database, [])
            self.assertEqual(caught.exception.at, at)
        self.assertEqual(len(drive(EXAMPLE, ((None, (2,)),) * 80, []).result.rows), 80)

    def test_arguments_stay_and_are_passed_by_name(self):
        picks, text = [1, 0, 3], str(EXAMPLE)
        run = drive(picks=picks, database=((None, (0,)),), mix=EXAMPLE)
        self.assertEqual((picks, str(EXAMPLE)), ([1, 0, 3], text))
        again = play(weaving=run.weaving, database=((None, (0,)),), mix=run.mix)
        self.assertEqual(again.result, run.result)
        run.result.returned.clear()
        self.assertNotEqual(drive(EXAMPLE, ((None, (0,)),), picks).result.returned, {})
        for thing in [*ANY, again]:
            self.assertFalse(run == thing)


class AllUndoneTest(unittest.TestCase):
    def test_a_run_in_which_the_engine_undoes_all(self):
        # Somebody always commits before a session fails, and somebody is left of each ring, so the last
        # transaction of a run is never undone; a runner whose sessions were undone tells it all the same.
        mix = mix_of("a=2", "put k (1) / commit")
        runner = Runner(mix, (("zz", (1,)), (None, (0,))))
        runner.act((0, None))
        runner._undone.append((0, 0))
        run = runner.run()
        self.assertEqual((run.mix, run.weaving, run.undone, run.steps), (None, (), ((0, 0),), 1))
        self.assertEqual((run.result.rows, run.result.returned), ((("zz", (1,)), (None, (0,))), {}))


if __name__ == "__main__":
    unittest.main()
