"""The engine: holds, sessions that wait, and rings of waits."""

import unittest

from newestrow.errors import BadStatement, Busy, Ended, NoTarget, Ring, Unfinished, Waits
from test_engine import EngineTest, database_of, says

HOLDING = ["share", "sole", "change a = 1", "remove", "put k (0)"]


class HoldTest(EngineTest):
    def test_shared_and_alone(self):
        for first in ("share", "sole", "change a = a", "remove", "put k (0)", "put k (0) or change a = 2"):
            for second in ("share", "sole", "change a = a", "remove", "put k (1)"):
                database = database_of(("k", 1))
                one, other = database.begin(), database.begin()
                one.do(says(first))
                targets = other.start(says(second))
                with self.subTest(first=first, second=second):
                    if first == second == "share":
                        self.assertIs(other.visit(0), True)
                    else:
                        self.check_raises(Waits, {"holders": (0,)}, other.visit, targets[0])
                        one.undo()
                        self.assertIs(other.visit(targets[0]), True)

    def test_look_holds_nothing_and_waits_for_nothing(self):
        database = database_of(0)
        one, other = database.begin(), database.begin()
        one.do(says("look"))
        other.do(says("change a = 1"))
        self.assertEqual(one.do(says("look")), [(0, None, (0,))])

    def test_a_named_row_and_its_name_are_one_thing(self):
        database = database_of(("k", 1))
        one, other, third = database.begin(), database.begin(), database.begin()
        one.do(says("remove"))
        other.start(says("put k (2)"))
        self.check_raises(Waits, {"holders": (0,)}, other.visit, "k")
        one.commit()
        self.assertTrue(other.visit("k"))
        other.finish()
        third.start(says("put k (0) or change a = 0"))
        self.check_raises(Waits, {"holders": (1,)}, third.visit, "k")
        other.commit()
        self.assertTrue(third.visit("k"))
        self.assertEqual(third.finish(), [(1, "k", (0,))])

    def test_a_name_without_a_row_is_held(self):
        database = database_of()
        one, other = database.begin(), database.begin()
        one.do(says("mark"))
        one.do(says("put k (0)"))
        one.do(says("remove"))
        other.start(says("put k (1)"))
        self.check_raises(Waits, {"holders": (0,)}, other.visit, "k")
        one.do(says("back"))
        self.assertTrue(other.visit("k"))

    def test_other_rows_and_names_are_free(self):
        database = database_of(0, ("k", 0), ("j", 0))
        one, other = database.begin(), database.begin()
        one.do(says("sole where name = k"))
        self.assertEqual(other.do(says("change a = 1 where name != k")), [(0, None, (1,)), (2, "j", (1,))])
        self.assertEqual(other.do(says("put i (0)")), [(3, "i", (0,))])

    def test_a_hold_ends_with_the_back_that_undoes_its_statement(self):
        database = database_of(0, 1, 2)
        one, other = database.begin(), database.begin()
        one.do(says("sole where a = 0"))
        one.do(says("mark"))
        one.do(says("sole where a = 1"))
        one.do(says("mark"))
        one.do(says("sole where a = 2"))
        one.do(says("back"))
        self.assertEqual(other.do(says("sole where a = 2")), [(2, None, (2,))])
        # The mark stays: a second `back` goes no further.
        one.do(says("back"))
        other.start(says("sole where a < 2"))
        self.check_raises(Waits, {"holders": (0,)}, other.visit, 0)
        self.check_raises(Waits, {"holders": (0,)}, other.visit, 1)
        one.commit()
        self.assertTrue(other.visit(1))
        self.assertTrue(other.visit(0))

    def test_a_row_that_was_held_before_the_mark_stays_held(self):
        database = database_of(0)
        one, other = database.begin(), database.begin()
        one.do(says("share"))
        one.do(says("mark"))
        one.do(says("change a = 1"))
        other.start(says("share"))
        self.check_raises(Waits, {"holders": (0,)}, other.visit, 0)
        one.do(says("back"))
        self.assertTrue(other.visit(0))
        self.assertEqual(other.finish(), [(0, None, (0,))])
        third = database.begin()
        third.start(says("sole"))
        self.check_raises(Waits, {"holders": (0, 1)}, third.visit, 0)
        self.assertEqual(one.do(says("look")), [(0, None, (0,))])

    def test_own_holds_are_in_nobodys_own_way(self):
        database = database_of(0)
        one, other = database.begin(), database.begin()
        one.do(says("share"))
        one.do(says("sole"))
        one.do(says("share"))
        other.start(says("share"))
        self.check_raises(Waits, {"holders": (0,)}, other.visit, 0)

    def test_what_is_left_is_not_held(self):
        database = database_of(("k", 0))
        one, other = database.begin(), database.begin()
        one.start(says("sole"))
        other.do(says("remove"))
        other.commit()
        self.assertIs(one.visit(0), False)
        self.assertEqual(database.begin().do(says("put k (2)")), [(1, "k", (2,))])


class TableTest(EngineTest):
    def test_what_has_to_wait_while_another_owns_the_table(self):
        database = database_of(0)
        one, other = database.begin(), database.begin()
        one.do(says("table"))
        for text in [*HOLDING, "share where false", "table"]:
            for call in (other.start, other.do):
                self.check_raises(Waits, {"holders": (0,)}, call, says(text))
        for text in ("look", "mark", "back"):
            other.do(says(text))
        one.commit()
        for text in HOLDING:
            other.do(says(text))

    def test_table_waits_for_busy_sessions(self):
        for text in [*HOLDING, "sole where false", "put zz (1)"]:
            database = database_of(0)
            one, other, idle = database.begin(), database.begin(), database.begin()
            idle.do(says("look"))
            idle.do(says("mark"))
            one.do(says("mark"))
            one.do(says(text))
            self.check_raises(Waits, {"holders": (0,)}, other.start, says("table"))
            # A `back` does not make a transaction less busy.
            one.do(says("back"))
            self.check_raises(Waits, {"holders": (0,)}, other.start, says("table"))
            one.undo()
            self.assertEqual(other.start(says("table")), [])

    def test_a_session_is_busy_from_the_start_on(self):
        database = database_of(0)
        one, other = database.begin(), database.begin()
        one.start(says("sole"))
        self.check_raises(Waits, {"holders": (0,)}, other.start, says("table"))
        one.visit(0)
        one.finish()
        self.check_raises(Waits, {"holders": (0,)}, other.start, says("table"))
        one.commit()
        other.start(says("table"))

    def test_a_session_that_waits_to_be_started_is_not_busy(self):
        database = database_of(0)
        one, other = database.begin(), database.begin()
        one.do(says("table"))
        self.check_raises(Waits, {"holders": (0,)}, other.start, says("sole"))
        self.assertEqual(one.do(says("table")), [])

    def test_the_owner_goes_on_and_keeps_the_table(self):
        database = database_of(0)
        one, other = database.begin(), database.begin()
        one.do(says("mark"))
        one.do(says("table"))
        one.do(says("change a = 1"))
        one.do(says("back"))
        self.check_raises(Waits, {"holders": (0,)}, other.start, says("share where false"))
        one.do(says("table"))
        one.undo()
        other.start(says("share where false"))

    def test_several_holders(self):
        database = database_of(0, 0)
        sessions = [database.begin() for _ in range(4)]
        for number in (3, 0, 2):
            sessions[number].do(says("share"))
        self.check_raises(Waits, {"holders": (0, 2, 3)}, sessions[1].start, says("table"))
        sessions[1].start(says("change a = 1"))
        self.check_raises(Waits, {"holders": (0, 2, 3)}, sessions[1].visit, 1)
        sessions[2].commit()
        self.check_raises(Waits, {"holders": (0, 3)}, sessions[1].visit, 1)
        sessions[0].undo()
        sessions[3].undo()
        self.assertTrue(sessions[1].visit(1))


class RingTest(EngineTest):
    def held(self, many):
        """Return sessions of which each holds the row with its number alone."""
        database = database_of(*[("kjihg"[number], 0) for number in range(many)])
        sessions = [database.begin() for _ in range(many)]
        for number, session in enumerate(sessions):
            session.do(says(f"change a = 1 where name = {'kjihg'[number]}"))
        return database, sessions

    def test_rings_of_two_three_and_more(self):
        for many in (2, 3, 4, 5):
            database, sessions = self.held(many)
            for number in range(1, many):
                sessions[number].start(says("sole"))
                self.check_raises(Waits, {"holders": ((number + 1) % many,)}, sessions[number].visit, (number + 1) % many)
            sessions[0].start(says("sole"))
            self.check_raises(Ring, {"sessions": tuple(range(many))}, sessions[0].visit, 1)
            self.assertFalse(sessions[0].is_open)
            self.check_raises(Ended, {}, sessions[0].undo)
            # What it held is free, and what it wrote is undone.
            self.assertTrue(sessions[many - 1].visit(0))
            self.assertEqual(database.committed()[0], (0, "k", (0,)))

    def test_the_one_that_asks_stands_first(self):
        _, sessions = self.held(3)
        sessions[0].start(says("sole"))
        self.check_raises(Waits, {"holders": (2,)}, sessions[0].visit, 2)
        sessions[2].start(says("sole"))
        self.check_raises(Waits, {"holders": (1,)}, sessions[2].visit, 1)
        sessions[1].start(says("sole"))
        self.check_raises(Ring, {"sessions": (1, 0, 2)}, sessions[1].visit, 0)

    def test_two_that_share_a_row(self):
        database = database_of(0)
        one, other = database.begin(), database.begin()
        one.do(says("share"))
        other.do(says("share"))
        self.check_raises(Waits, {"holders": (1,)}, one.do, says("change a = 1"))
        self.check_raises(Ring, {"sessions": (1, 0)}, other.do, says("change a = 2"))
        self.assertTrue(one.visit(0))
        self.assertEqual(one.finish(), [(0, None, (1,))])
        one.commit()
        self.assertEqual(database.committed(), [(0, None, (1,))])

    def test_a_shortest_ring(self):
        for short in (1, 3):
            database = database_of(("k", 0), ("j", 0), ("h", 0))
            sessions = [database.begin() for _ in range(4)]
            long = 4 - short
            sessions[0].do(says("sole where name = j"))
            sessions[2].do(says("sole where name = h"))
            for number in (1, 3):
                sessions[number].do(says("share where name = k"))
            self.check_raises(Waits, {"holders": (2,)}, sessions[long].do, says("sole where name = h"))
            self.check_raises(Waits, {"holders": (0,)}, sessions[2].do, says("sole where name = j"))
            self.check_raises(Waits, {"holders": (0,)}, sessions[short].do, says("share where name = j"))
            # Session 0 would wait for itself by way of the long one and 2 as well.
            self.check_raises(Ring, {"sessions": (0, short)}, sessions[0].do, says("change a = 1 where name = k"))

    def test_table_in_a_ring(self):
        database = database_of(0)
        one, other = database.begin(), database.begin()
        one.do(says("sole where false"))
        other.do(says("sole"))
        self.check_raises(Waits, {"holders": (1,)}, one.start, says("table"))
        self.check_raises(Ring, {"sessions": (1, 0)}, other.start, says("table"))
        self.assertEqual(one.start(says("table")), [])

    def test_one_session_that_waits_for_several(self):
        database = database_of(0, ("k", 0))
        one, two, three = database.begin(), database.begin(), database.begin()
        one.do(says("share where name = k"))
        two.do(says("share where name != k"))
        three.do(says("share where name != k"))
        self.check_raises(Waits, {"holders": (1, 2)}, one.do, says("sole where name != k"))
        self.check_raises(Ring, {"sessions": (2, 0)}, three.do, says("sole where name = k"))
        self.check_raises(Ring, {"sessions": (1, 0)}, two.do, says("sole where name = k"))
        self.assertTrue(one.visit(0))

    def test_a_session_waits_for_those_that_stand_in_the_way_now(self):
        # When 1 asks, 2 is not busy yet; it gets into the way later.
        database = database_of(0)
        owner, asks, late = database.begin(), database.begin(), database.begin()
        owner.do(says("share"))
        asks.do(says("sole where false"))
        self.check_raises(Waits, {"holders": (0,)}, asks.start, says("table"))
        late.do(says("share"))
        owner.commit()
        self.check_raises(Ring, {"sessions": (2, 1)}, late.start, says("table"))

    def test_who_has_gone_is_waited_for_no_more(self):
        database = database_of(0, ("k", 0))
        one, other = database.begin(), database.begin()
        one.do(says("sole where name = k"))
        other.do(says("mark"))
        other.do(says("sole where name != k"))
        self.check_raises(Waits, {"holders": (1,)}, one.do, says("sole where name != k"))
        other.do(says("back"))
        # One waits for nobody now, though it has not tried again.
        self.check_raises(Waits, {"holders": (0,)}, other.do, says("sole where name = k"))
        self.assertTrue(one.visit(0))

    def test_a_row_that_was_removed_since_is_waited_for_by_nobody(self):
        database = database_of(("k", 0), 0)
        one, two, three = database.begin(), database.begin(), database.begin()
        one.do(says("sole where name != k"))
        one.start(says("sole where name = k"))
        two.do(says("remove where name = k"))
        self.check_raises(Waits, {"holders": (1,)}, one.visit, 0)
        two.commit()
        three.do(says("put k (0)"))
        # The name is held by 2, but the row for which 0 waited is gone.
        self.check_raises(Waits, {"holders": (0,)}, three.do, says("sole where name != k"))
        self.assertIs(one.visit(0), False)

    def test_a_call_that_returns_ends_the_wait(self):
        database = database_of(0, ("k", 0), ("j", 0))
        one, other = database.begin(), database.begin()
        one.do(says("sole where name = k"))
        other.do(says("sole where name = j"))
        one.start(says("sole where name != k"))
        self.check_raises(Waits, {"holders": (1,)}, one.visit, 2)
        self.assertTrue(one.visit(0))
        # The visit of the other row returned, so this one has nothing to wait for it in a ring.
        self.check_raises(Waits, {"holders": (0,)}, other.do, says("sole where name = k"))
        self.check_raises(Ring, {"sessions": (0, 1)}, one.visit, 2)
        self.assertTrue(other.visit(1))

    def test_a_call_that_raises_does_not_end_the_wait(self):
        database = database_of(0, ("k", 0))
        one, other = database.begin(), database.begin()
        one.do(says("sole where name = k"))
        other.do(says("sole where name != k"))
        one.start(says("sole where name != k"))
        self.check_raises(Waits, {"holders": (1,)}, one.visit, 0)
        self.check_raises(NoTarget, {"target": 1}, one.visit, 1)
        self.check_raises(Unfinished, {"targets": (0,)}, one.finish)
        self.check_raises(Busy, {}, one.start, says("look"))
        self.check_raises(Busy, {}, one.commit)
        self.check_raises(Ring, {"sessions": (1, 0)}, other.do, says("sole where name = k"))

    def test_another_start_instead(self):
        for text in ("look", "mark"):
            database = database_of(0)
            one, other = database.begin(), database.begin()
            one.do(says("sole where false"))
            other.do(says("sole where false"))
            self.check_raises(Waits, {"holders": (1,)}, one.start, says("table"))
            one.do(says(text))
            self.check_raises(Waits, {"holders": (0,)}, other.start, says("table"))
        database = database_of(0)
        one, other = database.begin(), database.begin()
        one.do(says("sole where false"))
        other.do(says("sole where false"))
        self.check_raises(Waits, {"holders": (1,)}, one.start, says("table"))
        self.check_raises(BadStatement, {"at": 0}, one.start, says("back"))
        self.check_raises(Ring, {"sessions": (1, 0)}, other.start, says("table"))

    def test_the_last_call_that_had_to_wait_counts(self):
        database = database_of(0, ("k", 0), ("j", 0))
        one, two, three = database.begin(), database.begin(), database.begin()
        one.do(says("sole where name != k and name != j"))
        two.do(says("sole where name = k"))
        three.do(says("sole where name = j"))
        one.start(says("sole"))
        self.check_raises(Waits, {"holders": (1,)}, one.visit, 1)
        self.check_raises(Waits, {"holders": (2,)}, one.visit, 2)
        # Session 1 is waited for no more, but 2 is.
        self.check_raises(Waits, {"holders": (0,)}, two.do, says("sole where name != k and name != j"))
        self.check_raises(Ring, {"sessions": (2, 0)}, three.do, says("sole where name != k and name != j"))

    def test_a_session_that_was_undone_waits_no_more(self):
        database = database_of(0, ("k", 0))
        one, other = database.begin(), database.begin()
        one.do(says("sole where name = k"))
        other.do(says("sole where name != k"))
        self.check_raises(Waits, {"holders": (1,)}, one.do, says("sole where name != k"))
        one.undo()
        self.assertEqual(other.do(says("sole where name = k")), [(1, "k", (0,))])

    def test_rings_do_not_reach_into_another_database(self):
        first, second = database_of(0), database_of(0)
        one, other = first.begin(), first.begin()
        elsewhere, holder = second.begin(), second.begin()
        one.do(says("share"))
        other.do(says("share"))
        holder.do(says("sole"))
        self.check_raises(Waits, {"holders": (1,)}, one.do, says("sole"))
        self.check_raises(Waits, {"holders": (1,)}, elsewhere.do, says("sole"))
        self.check_raises(Ring, {"sessions": (1, 0)}, other.do, says("sole"))
        self.assertTrue(holder.is_open)
        self.assertTrue(elsewhere.is_open)


if __name__ == "__main__":
    unittest.main()
