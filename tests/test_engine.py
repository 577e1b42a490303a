"""The engine: tags, snapshots, targets and visits, what statements return, commits and errors."""

import unittest

from newestrow.engine import Database, Session
from newestrow.errors import (
    BadDatabase, BadStatement, Busy, Ended, Failed, NoTarget, Unfinished, Waits,
)
from newestrow.statements import Statement
from newestrow.tables import Table
from building import ANY

TABLE = Table([("a", 2)])


def says(text):
    return Statement(text, TABLE)


def database_of(*rows):
    """Return a database; a row is its value of a, or a pair of a name and this value."""
    return Database(TABLE, [(row[0], (row[1],)) if isinstance(row, tuple) else (None, (row,)) for row in rows])


class EngineTest(unittest.TestCase):
    def check_raises(self, cls, fields, call, *arguments, **more):
        with self.assertRaises(cls) as caught:
            call(*arguments, **more)
        self.assertEqual(vars(caught.exception), fields)


class DatabaseTest(EngineTest):
    def test_initial_rows(self):
        self.assertEqual(database_of().committed(), [])
        database = database_of(2, ("k", 0), 2, ("j", 1))
        self.assertEqual(database.committed(), [(0, None, (2,)), (1, "k", (0,)), (2, None, (2,)), (3, "j", (1,))])
        database.committed().clear()
        self.assertEqual(len(database.committed()), 4)

    def test_wrong_rows(self):
        good = (None, (0,))
        for thing in [*ANY, [None, (0,)], (None, [0]), (None, (3,)), (None, (True,)), (None, None), ("K", (0,)), (0, (0,)), (None, (0,), 1)]:
            self.check_raises(BadDatabase, {"at": 2}, Database, TABLE, [good, good, thing, thing])
        self.check_raises(BadDatabase, {"at": 3}, Database, TABLE, [("k", (0,)), good, ("j", (0,)), ("k", (0,)), "wrong"])
        self.check_raises(BadDatabase, {"at": 0}, Database, TABLE, ["wrong", "wrong"])
        self.assertEqual(len(Database(TABLE, [good] * 80).committed()), 80)

    def test_arguments_are_copied(self):
        rows = [(None, (0,))]
        database = Database(rows=rows, table=TABLE)
        rows.append((None, (1,)))
        rows[0] = (None, (2,))
        self.assertEqual(database.committed(), [(0, None, (0,))])
        database.begin().do(says("change a = 1"))
        self.assertEqual(rows, [(None, (2,)), (None, (1,))])

    def test_sessions_are_numbered(self):
        database = database_of(0)
        sessions = [database.begin(), database.begin(level="repeatable"), database.begin(level="committed")]
        for number, (session, level) in enumerate(zip(sessions, ("committed", "repeatable", "committed"))):
            self.assertIsInstance(session, Session)
            self.assertEqual((session.number, session.level), (number, level))
            self.assertIs(session.is_open, True)
        sessions[1].undo()
        self.assertEqual(database.begin().number, 3)
        self.assertEqual(database_of().begin().number, 0)
        with self.assertRaises(TypeError):
            database.begin("repeatable")

    def test_two_databases_share_nothing(self):
        rows = [("k", (0,)), (None, (1,))]
        one, other = Database(TABLE, rows), Database(TABLE, rows)
        first, second = one.begin(), other.begin()
        self.assertEqual((first.number, second.number), (0, 0))
        statement = says("change a = 2")
        self.assertEqual(first.do(says("table")), [])
        self.assertEqual(second.do(statement), [(0, "k", (2,)), (1, None, (2,))])
        second.commit()
        self.assertEqual(first.do(says("look")), [(0, "k", (0,)), (1, None, (1,))])
        self.assertEqual(one.committed(), [(0, "k", (0,)), (1, None, (1,))])
        first.do(says("put j (0)"))
        first.commit()
        self.assertEqual(other.begin().do(says("put j (1)")), [(2, "j", (1,))])

    def test_tags_of_inserted_rows(self):
        database = database_of(("k", 0), 1)
        session = database.begin()
        self.assertEqual(session.do(says("put j (2)")), [(2, "j", (2,))])
        self.assertEqual(session.do(says("remove where name = j")), [(2, "j", (2,))])
        self.assertEqual(session.do(says("put j (1)")), [(3, "j", (1,))])
        session.undo()
        session = database.begin()
        session.do(says("mark"))
        self.assertEqual(session.do(says("put j (1)")), [(4, "j", (1,))])
        session.do(says("back"))
        self.assertEqual(session.do(says("put j (0)")), [(5, "j", (0,))])
        self.assertEqual(session.do(says("put j (0) or change a = 2")), [(5, "j", (2,))])
        self.assertEqual(session.do(says("put k (0)")), [])
        session.commit()
        self.assertEqual(database.committed(), [(0, "k", (0,)), (1, None, (1,)), (5, "j", (2,))])
        session = database.begin()
        session.do(says("remove where name = k"))
        self.assertEqual(session.do(says("put k (1)")), [(6, "k", (1,))])
        session.commit()
        self.assertEqual(database.committed(), [(1, None, (1,)), (5, "j", (2,)), (6, "k", (1,))])


class StatementTest(EngineTest):
    def test_targets(self):
        database = database_of(0, ("k", 1), 2, 1)
        session = database.begin()
        for text, targets in (
            ("share", [0, 1, 2, 3]), ("sole where a = 1", [1, 3]), ("change a = 0 where name = k", [1]), ("remove where a > 0 and name != k", [2, 3]),
            ("share where a = 2 and a = 1", []), ("put k (0)", ["k"]), ("put zz (0) or change a = 1 where false", ["zz"]), ("look", []),
        ):
            found = session.start(says(text))
            self.assertEqual(found, targets)
            found.append("more")
            for target in targets:
                self.assertIs(session.visit(target), True)
            session.finish()

    def test_what_is_done_when_it_is_started(self):
        session = database_of(0).begin()
        for word in ("mark", "back", "table", "mark"):
            for call in (session.start, session.do):
                self.assertEqual(call(says(word)), [])
                self.check_raises(NoTarget, {"target": None}, session.finish)
                self.check_raises(NoTarget, {"target": 0}, session.visit, 0)
        self.assertEqual(session.do(says("look")), [(0, None, (0,))])

    def test_every_word(self):
        database = database_of(0, ("k", 1), 2)
        session = database.begin()
        self.assertEqual(session.do(says("look where a < 2")), [(0, None, (0,)), (1, "k", (1,))])
        self.assertEqual(session.do(says("share where a > 0")), [(1, "k", (1,)), (2, None, (2,))])
        self.assertEqual(session.do(says("sole where name = k")), [(1, "k", (1,))])
        self.assertEqual(session.do(says("change a = a + 1")), [(0, None, (1,)), (1, "k", (2,)), (2, None, (2,))])
        self.assertEqual(session.do(says("remove where a = 1")), [(0, None, (1,))])
        self.assertEqual(session.do(says("put k (0)")), [])
        self.assertEqual(session.do(says("put k (0) or nothing")), [])
        self.assertEqual(session.do(says("put k (0) or change a = 1 where a = 0")), [])
        self.assertEqual(session.do(says("put k (0) or change a = 1 where a = 2")), [(1, "k", (1,))])
        self.assertEqual(session.do(says("put j (0) or change a = 1")), [(3, "j", (0,))])
        self.assertEqual(session.do(says("look")), [(1, "k", (1,)), (2, None, (2,)), (3, "j", (0,))])
        self.assertEqual(database.committed(), [(0, None, (0,)), (1, "k", (1,)), (2, None, (2,))])
        self.assertIsNone(session.commit())
        self.assertEqual(database.committed(), [(1, "k", (1,)), (2, None, (2,)), (3, "j", (0,))])

    def test_look_shows_what_was_there_when_it_was_started(self):
        database = database_of(0)
        one, other = database.begin(), database.begin()
        self.assertEqual(one.start(says("look")), [])
        other.do(says("change a = 2"))
        other.commit()
        self.assertEqual(one.finish(), [(0, None, (0,))])
        self.assertEqual(one.do(says("look")), [(0, None, (2,))])

    def test_visits_in_any_order(self):
        database = database_of(0, 1, 2)
        session = database.begin()
        self.assertEqual(session.start(says("change a = 0")), [0, 1, 2])
        for target, left in ((1, (0, 2)), (2, (0,))):
            self.assertIs(session.visit(target), True)
            self.check_raises(Unfinished, {"targets": left}, session.finish)
            self.check_raises(NoTarget, {"target": target}, session.visit, target)
        session.visit(target=0)
        self.assertEqual(session.finish(), [(0, None, (0,)), (1, None, (0,)), (2, None, (0,))])
        self.check_raises(NoTarget, {"target": None}, session.finish)

    def test_early_and_late_visits(self):
        database = database_of(0, 0)
        one, other = database.begin(), database.begin()
        self.assertEqual(one.start(says("change a = a + 1 where a = 0")), [0, 1])
        self.assertTrue(one.visit(0))
        self.assertEqual(other.start(says("change a = 2 where a = 0")), [0, 1])
        self.assertTrue(other.visit(1))
        self.check_raises(Waits, {"holders": (0,)}, other.visit, 0)
        other.undo()
        self.assertTrue(one.visit(1))
        self.assertEqual(one.finish(), [(0, None, (1,)), (1, None, (1,))])

    def test_a_row_is_read_again(self):
        database = database_of(0, 0)
        late, early = database.begin(), database.begin()
        self.assertEqual(late.start(says("change a = a + 1 where a < 2")), [0, 1])
        early.do(says("change a = 1"))
        early.commit()
        again = database.begin()
        again.start(says("change a = 2"))
        again.visit(1)
        self.assertTrue(late.visit(0))
        self.check_raises(Waits, {"holders": (2,)}, late.visit, 1)
        again.undo()
        self.assertTrue(late.visit(1))
        self.assertEqual(late.finish(), [(0, None, (2,)), (1, None, (2,))])

    def test_a_row_for_which_the_condition_no_longer_holds_is_held_but_left(self):
        database = database_of(0)
        late, early, third = database.begin(), database.begin(), database.begin()
        late.start(says("change a = 1 where a = 0"))
        early.do(says("change a = 2"))
        early.commit()
        self.assertIs(late.visit(0), True)
        self.assertEqual(late.finish(), [])
        third.start(says("share"))
        self.check_raises(Waits, {"holders": (0,)}, third.visit, 0)
        late.commit()
        self.assertIs(third.visit(0), True)
        self.assertEqual(third.finish(), [(0, None, (2,))])

    def test_a_row_that_was_written_with_the_same_values_is_read_again(self):
        database = database_of(0)
        late, early = database.begin(level="repeatable"), database.begin()
        late.start(says("sole"))
        early.do(says("change a = a"))
        early.commit()
        self.check_raises(Failed, {"target": 0}, late.visit, 0)

    def test_a_removed_row_is_left(self):
        database = database_of(0, ("k", 0))
        for text in ("share", "sole", "change a = 1", "remove"):
            one = database.begin()
            self.assertEqual(one.start(says(text)), [0, 1])
            one.undo()
        one, other = database.begin(), database.begin()
        one.start(says("change a = 1"))
        other.do(says("remove where name = k"))
        other.do(says("put k (2)"))
        other.commit()
        third = database.begin()
        third.do(says("sole where name = k"))
        # At once, though another session holds the name now.
        self.assertIs(one.visit(1), False)
        self.assertIs(one.visit(0), True)
        self.assertEqual(one.finish(), [(0, None, (1,))])
        self.assertEqual(third.do(says("change a = 0 where name = k")), [(2, "k", (0,))])

    def test_a_removed_row_at_level_repeatable(self):
        database = database_of(0, 0)
        one, other = database.begin(level="repeatable"), database.begin()
        one.start(says("sole"))
        other.do(says("remove"))
        self.check_raises(Waits, {"holders": (1,)}, one.visit, 1)
        other.commit()
        self.check_raises(Failed, {"target": 1}, one.visit, 1)
        self.assertIs(one.is_open, False)
        self.assertEqual(database.committed(), [])

    def test_failing_on_a_removed_name_comes_ahead_of_waiting(self):
        database = database_of(("k", 0))
        for level, wanted in (("repeatable", None), ("committed", False)):
            one, other, third = database.begin(level=level), database.begin(), database.begin()
            tag = database.committed()[0][0]
            self.assertEqual(one.start(says("sole")), [tag])
            other.do(says("remove"))
            other.commit()
            third.do(says("put k (0)"))
            if wanted is None:
                self.check_raises(Failed, {"target": tag}, one.visit, tag)
            else:
                self.assertIs(one.visit(tag), wanted)
            third.commit()

    def test_put_reads_what_is_newest(self):
        database = database_of()
        one, other = database.begin(), database.begin()
        self.assertEqual(one.start(says("put k (0) or change a = 2 where a = 1")), ["k"])
        self.assertEqual(other.do(says("put k (1)")), [(0, "k", (1,))])
        self.check_raises(Waits, {"holders": (1,)}, one.visit, "k")
        other.commit()
        self.assertTrue(one.visit("k"))
        self.assertEqual(one.finish(), [(0, "k", (2,))])
        other = database.begin()
        other.start(says("put k (1)"))
        self.check_raises(Waits, {"holders": (0,)}, other.visit, "k")
        one.do(says("remove"))
        one.commit()
        self.assertTrue(other.visit("k"))
        self.assertEqual(other.finish(), [(1, "k", (1,))])

    def test_put_at_level_repeatable(self):
        database = database_of(0)
        for text, commits in (("put k (0)", True), ("put k (1)", False)):
            one, other = database.begin(level="repeatable"), database.begin()
            one.do(says("look"))
            other.do(says("put k (1)"))
            other.do(says("remove where name = k"))
            (other.commit if commits else other.undo)()
            if commits:
                # No row before and none behind it, but a commit has written it.
                one.start(says(text))
                self.check_raises(Failed, {"target": "k"}, one.visit, "k")
            else:
                self.assertEqual(one.do(says(text)), [(3, "k", (1,))])

    def test_own_versions_are_seen(self):
        database = database_of(0, ("k", 0))
        session = database.begin(level="repeatable")
        session.do(says("look"))
        session.do(says("change a = 1 where name = k"))
        session.do(says("remove where name != k"))
        session.do(says("put j (2)"))
        self.assertEqual(session.do(says("look")), [(1, "k", (1,)), (2, "j", (2,))])
        self.assertEqual(session.start(says("sole where a > 0")), [1, 2])
        self.assertTrue(session.visit(2))
        self.assertTrue(session.visit(1))
        self.assertEqual(session.finish(), [(1, "k", (1,)), (2, "j", (2,))])
        other = database.begin()
        self.assertEqual(other.do(says("look")), [(0, None, (0,)), (1, "k", (0,))])


class SnapshotTest(EngineTest):
    def change(self, database, text):
        session = database.begin()
        session.do(says(text))
        session.commit()

    def test_each_statement_has_its_own(self):
        database = database_of(0)
        session = database.begin()
        for value in range(3):
            self.change(database, f"change a = {value}")
            self.assertEqual(session.do(says("look")), [(0, None, (value,))])

    def test_repeatable_has_one(self):
        database = database_of(0)
        session = database.begin(level="repeatable")
        self.change(database, "change a = 1")
        session.do(says("mark"))
        session.do(says("table"))
        session.do(says("back"))
        other = database.begin()
        self.check_raises(Waits, {"holders": (0,)}, other.start, says("change a = 2"))
        session.do(says("look where false"))
        self.assertEqual(session.do(says("look")), [(0, None, (1,))])
        session.undo()
        for first in ("look", "share where false", "sole where false", "change a = 0 where false", "remove where false", "put zz (0)"):
            session = database.begin(level="repeatable")
            self.change(database, "change a = 1")
            session.do(says("mark"))
            session.do(says(first))
            session.do(says("back"))
            self.change(database, "change a = 2")
            self.assertEqual(session.do(says("look where name != zz")), [(0, None, (1,))])
            session.undo()

    def test_it_is_taken_when_start_returns(self):
        database = database_of(0)
        one, other = database.begin(level="repeatable"), database.begin()
        other.do(says("table"))
        other.do(says("change a = 1"))
        self.check_raises(Waits, {"holders": (1,)}, one.start, says("change a = 2 where a = 1"))
        other.commit()
        self.assertEqual(one.do(says("change a = 2 where a = 1")), [(0, None, (2,))])

    def test_repeatable_fails_on_changed_rows(self):
        database = database_of(0, 0)
        one = database.begin(level="repeatable")
        one.do(says("change a = 1 where false"))
        self.change(database, "change a = 0")
        self.assertEqual(one.start(says("share")), [0, 1])
        other = database.begin()
        other.do(says("sole"))
        self.check_raises(Waits, {"holders": (2,)}, one.visit, 1)
        other.undo()
        self.check_raises(Failed, {"target": 1}, one.visit, 1)
        self.check_raises(Ended, {}, one.visit, 0)
        self.assertFalse(one.is_open)

    def test_own_versions_do_not_fail(self):
        database = database_of(0)
        one = database.begin(level="repeatable")
        self.assertEqual(one.do(says("change a = 1")), [(0, None, (1,))])
        self.assertEqual(one.do(says("change a = 2")), [(0, None, (2,))])
        one.commit()
        self.assertEqual(database.committed(), [(0, None, (2,))])

    def test_a_failed_session_releases_its_rows(self):
        database = database_of(0, 1)
        one, other = database.begin(level="repeatable"), database.begin()
        one.do(says("change a = 2 where a = 0"))
        self.change(database, "change a = 0 where a = 1")
        one.start(says("sole where a = 1"))
        self.check_raises(Failed, {"target": 1}, one.visit, 1)
        self.assertEqual(other.do(says("sole")), [(0, None, (0,)), (1, None, (0,))])


class EndTest(EngineTest):
    def test_commit_and_undo(self):
        for ends, values in (("commit", (1,)), ("undo", (0,))):
            database = database_of(0)
            session = database.begin()
            session.do(says("change a = 1"))
            self.assertIsNone(getattr(session, ends)())
            self.assertIs(session.is_open, False)
            self.assertEqual(database.committed(), [(0, None, values)])
            for name, arguments in (("start", ["wrong"]), ("visit", [0]), ("finish", []), ("do", ["wrong"]), ("commit", []), ("undo", [])):
                self.check_raises(Ended, {}, getattr(session, name), *arguments)
            self.assertEqual(database.begin().do(says("sole")), [(0, None, values)])

    def test_what_commits_wrote_is_not_undone_later(self):
        database = database_of(0)
        session = database.begin()
        session.do(says("mark"))
        session.do(says("change a = 1"))
        session.do(says("back"))
        session.commit()
        self.assertEqual(database.committed(), [(0, None, (0,))])

    def test_commit_while_a_statement_is_under_way(self):
        session = database_of(0).begin()
        session.start(says("look"))
        self.check_raises(Busy, {}, session.commit)
        session.finish()
        session.start(says("change a = 1"))
        self.check_raises(Busy, {}, session.commit)
        session.visit(0)
        self.check_raises(Busy, {}, session.commit)
        session.finish()
        session.commit()

    def test_undo_at_any_time(self):
        database = database_of(0, 0)
        for calls in ((), (("start", says("look")),), (("start", says("change a = 1")),), (("start", says("change a = 1")), ("visit", 0))):
            session = database.begin()
            for name, argument in calls:
                getattr(session, name)(argument)
            session.undo()
            self.assertFalse(session.is_open)
        self.assertEqual(database.begin().do(says("sole")), [(0, None, (0,)), (1, None, (0,))])

    def test_is_open_is_a_property(self):
        self.assertIsInstance(vars(Session)["is_open"], property)
        with self.assertRaises(AttributeError):
            database_of().begin().is_open = False


class ErrorsTest(EngineTest):
    def test_no_target(self):
        session = database_of(0, ("k", 1)).begin()
        for thing in [*ANY, 0, 1, "k"]:
            self.check_raises(NoTarget, {"target": thing}, session.visit, thing)
        session.start(says("share"))
        for thing in [*ANY, "k", 2, -1, False, True, None]:
            if thing not in (0, 1) or isinstance(thing, bool):
                self.check_raises(NoTarget, {"target": thing}, session.visit, thing)
        session.visit(0)
        session.visit(1)
        session.finish()
        session.start(says("put k (0)"))
        for thing in [*ANY, 0, 1, "kk", ("k",), ["k"]]:
            self.check_raises(NoTarget, {"target": thing}, session.visit, thing)
        session.visit("k")
        self.check_raises(NoTarget, {"target": "k"}, session.visit, "k")
        session.finish()
        session.start(says("look"))
        self.check_raises(NoTarget, {"target": 0}, session.visit, 0)

    def test_busy(self):
        session = database_of(0).begin()
        session.start(says("sole"))
        for text in ("look", "sole", "put k (0)", "mark", "back", "table"):
            self.check_raises(Busy, {}, session.start, says(text))
            self.check_raises(Busy, {}, session.do, says(text))
        session.visit(0)
        self.check_raises(Busy, {}, session.start, says("look"))
        self.assertEqual(session.finish(), [(0, None, (0,))])

    def test_back_without_a_mark(self):
        database = database_of(0)
        session = database.begin()
        for call in (session.start, session.do):
            self.check_raises(BadStatement, {"at": 0}, call, says("back"))
        session.start(says("look"))
        self.check_raises(Busy, {}, session.start, says("back"))
        session.finish()
        self.check_raises(BadStatement, {"at": 0}, session.start, says("back"))
        session.do(says("mark"))
        session.do(says("back"))
        session.do(says("back"))
        session.undo()
        self.check_raises(Ended, {}, session.start, says("back"))
        self.check_raises(BadStatement, {"at": 0}, database.begin().start, says("back"))

    def test_unfinished(self):
        session = database_of(0, 1, 2).begin()
        session.start(says("share where a > 0"))
        self.check_raises(Unfinished, {"targets": (1, 2)}, session.finish)
        session.visit(2)
        self.check_raises(Unfinished, {"targets": (1,)}, session.finish)
        session.visit(1)
        session.finish()
        session.start(says("put k (0)"))
        self.check_raises(Unfinished, {"targets": ("k",)}, session.finish)

    def test_errors_change_nothing(self):
        database = database_of(0, 1)
        session, other = database.begin(), database.begin()
        other.do(says("sole where a = 1"))
        session.start(says("change a = 2"))
        for name, arguments in (("visit", [7]), ("finish", []), ("commit", []), ("start", [says("look")]), ("do", [says("table")]), ("visit", [1])):
            with self.assertRaises((LookupError, RuntimeError)):
                getattr(session, name)(*arguments)
        self.assertTrue(session.visit(0))
        other.undo()
        self.assertTrue(session.visit(1))
        self.assertEqual(session.finish(), [(0, None, (2,)), (1, None, (2,))])

    def test_do_goes_on_behind_waits(self):
        database = database_of(0, 0, 0)
        session, other = database.begin(), database.begin()
        other.start(says("sole"))
        other.visit(1)
        self.check_raises(Waits, {"holders": (1,)}, session.do, says("change a = 1"))
        self.check_raises(Unfinished, {"targets": (1, 2)}, session.finish)
        self.check_raises(Busy, {}, session.do, says("change a = 1"))
        other.undo()
        self.assertTrue(session.visit(2))
        self.assertTrue(session.visit(1))
        self.assertEqual(session.finish(), [(0, None, (1,)), (1, None, (1,)), (2, None, (1,))])

    def test_do_that_waits_to_be_started(self):
        database = database_of(0)
        session, other = database.begin(), database.begin()
        other.do(says("table"))
        self.check_raises(Waits, {"holders": (1,)}, session.do, says("change a = 1"))
        self.check_raises(NoTarget, {"target": None}, session.finish)
        self.assertEqual(session.do(says("look")), [(0, None, (0,))])
        other.commit()
        self.assertEqual(session.do(says("change a = 1")), [(0, None, (1,))])

    def test_do_fails(self):
        database = database_of(0, 0)
        session, other = database.begin(level="repeatable"), database.begin()
        session.do(says("look"))
        other.do(says("change a = 1"))
        other.commit()
        self.check_raises(Failed, {"target": 0}, session.do, says("remove"))
        self.assertFalse(session.is_open)

    def test_parameters_by_name(self):
        session = database_of(0).begin(level="committed")
        self.assertEqual(session.start(statement=says("sole")), [0])
        self.assertTrue(session.visit(target=0))
        session.finish()
        self.assertEqual(session.do(statement=says("look")), [(0, None, (0,))])

    def test_they_are_equal_to_nothing_else(self):
        database = database_of(0)
        session = database.begin()
        for thing in [*ANY, database_of(0), database.begin()]:
            self.assertFalse(database == thing)
            self.assertFalse(session == thing)


if __name__ == "__main__":
    unittest.main()
