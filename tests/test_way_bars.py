"""Which rows bar a weaving, and which two positions are told."""

import itertools
import unittest

from newestrow.errors import Bars
from newestrow.ways import way
from building import mix_of

ROW = (None, (0,))


class BarsTest(unittest.TestCase):
    def check(self, wanted, sessions, weaving, kind=ROW, columns="a=2"):
        """Compare (first, second) of Bars, or None if the row does not bar."""
        with self.subTest(sessions=sessions, weaving=weaving, kind=kind):
            try:
                way(mix_of(columns, *sessions), weaving, kind)
            except Bars as wrong:
                self.assertEqual((wrong.place, wrong.first, wrong.second), (0, *(wanted or ())))
            else:
                self.assertIsNone(wanted)


class HoldsTest(BarsTest):
    def test_two_holds_at_one_time(self):
        for one, other in itertools.product(("share", "sole", "change a = 1", "remove"), repeat=2):
            sessions = [f"{one} / look / commit", f"{other} / look / commit"]
            both_share = one == other == "share"
            self.check(None if both_share else (0, 1), sessions, (0, 1, 0, 1, 0, 1))
            self.check(None if both_share else (0, 1), sessions, (0, 1, 1, 0, 0, 1))
            self.check(None if both_share else (1, 0), sessions, (0, 1, 0, 1, 1, 0))
            self.check(None if both_share else (1, 0), sessions, (0, 1, 1, 0, 1, 0))
            self.check(None if both_share else (0, 2), sessions, (0, 0, 1, 1, 0, 1))
            self.check(None if both_share else (2, 0), sessions, (0, 0, 1, 1, 1, 0))

    def test_a_span_that_ends_behind_the_release_can_wait(self):
        for one, other in itertools.product(("share", "sole", "change a = a"), repeat=2):
            sessions = [f"{one} / look / commit", f"{other} / look / commit"]
            self.check(None, sessions, (0, 1, 0, 0, 1, 1))
            self.check(None, sessions, (0, 0, 1, 0, 1, 1))
            self.check(None, sessions, (1, 0, 1, 1, 0, 0))
            self.check(None, sessions, (0, 0, 0, 1, 1, 1))

    def test_rows_that_are_not_chosen(self):
        sessions = ["sole where a = 0 / look / commit", "sole where a = 1 / look / commit"]
        for kind in ((None, (0,)), (None, (1,)), (None, (2,))):
            self.check(None, sessions, (0, 1, 0, 1, 0, 1), kind)
        sessions = ["sole where a < 2 / look / commit", "sole where a > 0 / look / commit"]
        for kind, wanted in (((None, (0,)), None), ((None, (1,)), (0, 1)), ((None, (2,)), None)):
            self.check(wanted, sessions, (0, 1, 0, 1, 0, 1), kind)

    def test_puts_of_one_name(self):
        for one, other in itertools.product(("put k (1)", "put k (0) or nothing", "put k (1) or change a = 1 where a = 2"), repeat=2):
            sessions = [f"{one} / look / commit", f"{other} / look / commit"]
            for kind in (("k", None), ("k", (0,)), ("k", (2,))):
                self.check((0, 1), sessions, (0, 1, 0, 1, 0, 1), kind)
                self.check((1, 0), sessions, (0, 1, 0, 1, 1, 0), kind)
                self.check(None, sessions, (0, 1, 0, 0, 1, 1), kind)
            self.check(None, sessions, (0, 1, 0, 1, 0, 1), ROW)

    def test_puts_of_two_names(self):
        sessions = ["put k (1) / look / commit", "put j (1) / look / commit"]
        for kind in mix_of("a=2", *sessions).kinds():
            self.check(None, sessions, (0, 1, 0, 1, 0, 1), kind)

    def test_a_put_and_another_word(self):
        for word in ("share", "sole", "remove", "change a = 1"):
            sessions = ["put k (1) / look / commit", f"{word} where name = k / look / commit"]
            self.check((0, 1), sessions, (0, 1, 0, 1, 0, 1), ("k", (2,)))
            self.check(None, sessions, (0, 1, 0, 1, 0, 1), ("k", None))
            self.check(None, sessions, (0, 1, 0, 1, 0, 1), ROW)

    def test_looks_hold_nothing(self):
        for word in ("share", "sole", "change a = 1", "remove"):
            self.check(None, [f"{word} / look / commit", "look / look / commit"], (0, 1, 0, 1, 0, 1))

    def test_a_row_that_is_held_but_left(self):
        sessions = ["change a = 1 / commit / sole / commit", "remove where a = 0 / look / commit"]
        self.check((4, 1), sessions, (0, 1, 0, 1, 0, 0, 1))
        self.check(None, sessions, (0, 1, 0, 1, 0, 1, 0))

    def test_a_row_that_is_left(self):
        sessions = ["remove / commit / put k (1) / commit", "sole / look / commit"]
        self.check(None, sessions, (0, 1, 0, 1, 0, 0, 1), ("k", (0,)))
        self.check((4, 1), ["sole / commit / put k (1) / commit", "sole / look / commit"], (0, 1, 0, 1, 0, 0, 1), ("k", (0,)))

    def test_undone_ends(self):
        for ends in itertools.product(("commit", "undo"), repeat=2):
            sessions = [f"sole / look / {ends[0]}", f"change a = 1 / look / {ends[1]}"]
            self.check((0, 1), sessions, (0, 1, 0, 1, 0, 1))
            self.check(None, sessions, (0, 1, 0, 0, 1, 1))

    def test_a_back_releases(self):
        held = "mark / sole / look / back / look / commit"
        self.check((0, 1), [held, "sole / look / commit"], (0, 1, 1, 0, 0, 0, 1, 0))
        self.check((0, 1), [held, "sole / look / commit"], (0, 1, 0, 1, 0, 0, 1, 0))
        self.check(None, [held, "sole / look / commit"], (0, 1, 0, 0, 1, 0, 1, 0))
        self.check(None, [held, "sole / look / commit"], (0, 0, 0, 1, 1, 0, 1, 0))
        self.check((1, 0), [held, "sole / commit"], (0, 1, 0, 1, 0, 0, 0))
        self.check(None, [held, "sole / commit"], (0, 0, 0, 1, 0, 1, 0))

    def test_the_hold_of_a_statement_that_the_back_does_not_undo(self):
        self.check((0, 3), ["share / mark / look / back / look / commit", "sole / look / commit"], (0, 0, 0, 1, 1, 0, 0, 1))
        self.check(None, ["mark / share / look / back / look / commit", "sole / look / commit"], (0, 0, 0, 1, 1, 0, 0, 1))
        self.check((0, 2), ["mark / sole / mark / share / back / look / commit", "share / look / commit"], (0, 0, 1, 1, 0, 0, 0, 1))
        self.check(None, ["mark / share / mark / sole / back / look / commit", "share / look / commit"], (0, 0, 0, 1, 1, 0, 0, 1))

    def test_both_positions_of_one_transaction(self):
        self.check(None, ["sole / sole / change a = 1 / commit / remove / sole / commit"], (0,) * 7)

    def test_one_session_holds_one_after_another(self):
        self.check((0, 1), ["sole / commit / sole / commit", "sole / look / commit"], (0, 1, 1, 0, 0, 0, 1))
        self.check((4, 1), ["sole / commit / sole / commit", "sole / look / commit"], (0, 1, 0, 1, 0, 0, 1))


class RepeatableTest(BarsTest):
    def test_a_row_that_was_written_since(self):
        for write in ("change a = 1", "change a = a", "remove", "change a = 1 where a = 0", "mark / change a = 1"):
            for word in ("share", "sole", "remove", "change a = 2", "sole where a = 0"):
                sessions = [f"{write} / commit", f"begin repeatable / look / {word} / commit"]
                self.check((2, 3), sessions, (1, 0, 0, 1, 1))
                self.check((2, 1), [f"{write} / commit", f"begin repeatable / {word} / commit"], (0, 1, 0, 1))
                self.check((3, 2), sessions, (1, 0, 1, 0, 1))

    def test_a_row_that_is_not_chosen(self):
        for word in ("share", "sole", "remove", "change a = 2"):
            sessions = ["change a = 1 / commit", f"begin repeatable / look / {word} where a = 1 / commit"]
            self.check(None, sessions, (1, 0, 0, 1, 1))
            self.check((2, 3), sessions, (1, 0, 0, 1, 1), (None, (1,)))

    def test_committed_is_not_barred(self):
        for word in ("share", "sole", "remove", "change a = 2"):
            self.check(None, ["change a = 1 / commit", f"look / {word} / commit"], (1, 0, 0, 1, 1))

    def test_undone_statements_are_barred_too(self):
        self.check((2, 3), ["change a = 1 / commit", "begin repeatable / look / sole / undo"], (1, 0, 0, 1, 1))
        self.check((2, 3), ["change a = 1 / commit", "begin repeatable / look / mark / sole / back / commit"], (1, 0, 0, 1, 1, 1))

    def test_undone_writes_bar_nothing(self):
        self.check(None, ["change a = 1 / undo", "begin repeatable / look / sole / commit"], (1, 0, 0, 1, 1))
        self.check(None, ["mark / change a = 1 / back / commit", "begin repeatable / look / sole / commit"], (1, 0, 0, 0, 1, 1))
        self.check(None, ["sole / commit", "begin repeatable / look / sole / commit"], (1, 0, 0, 1, 1))
        self.check(None, ["change a = 1 where a = 1 / commit", "begin repeatable / look / sole / commit"], (1, 0, 0, 1, 1))

    def test_a_name_that_was_put_or_removed_since(self):
        for put in ("put k (2)", "put k (2) or nothing", "put k (2) or change a = 1", "put k (2) or change a = 1 where false"):
            sessions = ["put k (1) / commit", f"begin repeatable / look / {put} / commit"]
            self.check((2, 3), sessions, (1, 0, 0, 1, 1), ("k", None))
            self.check(None, sessions, (1, 0, 0, 1, 1), ("k", (0,)))
            self.check(None, sessions, (1, 0, 0, 1, 1), ROW)
            sessions = ["remove where name = k / commit", f"begin repeatable / look / {put} / commit"]
            self.check((2, 3), sessions, (1, 0, 0, 1, 1), ("k", (0,)))
            self.check(None, sessions, (1, 0, 0, 1, 1), ("k", None))
            sessions = ["put k (1) / remove where name = k / commit", f"begin repeatable / look / {put} / commit"]
            self.check((3, 4), sessions, (1, 0, 0, 0, 1, 1), ("k", None))

    def test_a_row_that_it_does_not_see(self):
        sessions = ["put k (1) / commit", "begin repeatable / look / remove / commit"]
        self.check(None, sessions, (1, 0, 0, 1, 1), ("k", None))
        sessions = ["change a = 1 / commit", "begin repeatable / look / remove where a = 1 / commit"]
        self.check(None, sessions, (1, 0, 0, 1, 1))

    def test_look_is_never_barred(self):
        for write in ("change a = 1", "remove", "put k (1)"):
            for kind in (ROW, ("k", (0,)), ("k", None)):
                self.check(None, [f"{write} / look where name = k / commit", "begin repeatable / look / look / commit"], (1, 0, 0, 0, 1, 1),
                           kind)

    def test_an_own_version_is_not_barred_again(self):
        sessions = ["change a = 1 / commit", "begin repeatable / look / change a = 2 / sole / commit"]
        self.check(None, sessions, (1, 1, 0, 1, 1, 0))
        self.check((2, 3), sessions, (1, 0, 0, 1, 1, 1))
        self.check(None, sessions, (1, 1, 1, 0, 1, 0))

    def test_a_version_that_a_back_undid_is_no_own_version(self):
        sessions = ["change a = 1 / commit", "begin repeatable / mark / change a = 2 / back / sole / commit"]
        self.check((3, 4), sessions, (1, 0, 1, 0, 1, 1))
        self.check(None, sessions, (1, 0, 1, 1, 1, 0))
        self.check((4, 3), sessions, (1, 0, 1, 1, 0, 1))

    def test_the_last_end_before_the_end_of_the_span(self):
        sessions = ["change a = 1 / commit / change a = 2 / commit / change a = 0 / commit", "begin repeatable / look / sole / commit"]
        self.check((4, 5), sessions, (1, 0, 0, 0, 0, 1, 1, 0, 0))
        self.check((5, 3), sessions, (1, 0, 0, 1, 0, 0, 1, 0, 0))
        self.check((2, 3), sessions, (1, 0, 0, 1, 0, 1, 0, 0, 0))

    def test_ends_behind_the_span_do_not_count(self):
        sessions = ["change a = 1 / commit", "begin repeatable / look / sole / look / commit"]
        self.check(None, sessions, (0, 1, 1, 1, 1, 0))
        self.check((0, 2), sessions, (0, 1, 1, 1, 0, 1))


class SeveralTest(BarsTest):
    def test_the_least_second(self):
        sessions = ["sole / look / commit", "share / share / look / commit"]
        self.check((0, 1), sessions, (0, 1, 1, 1, 0, 0, 1))
        self.check((0, 2), sessions, (0, 0, 1, 1, 1, 0, 1))
        sessions = ["sole / look / commit", "sole / look / commit", "sole / look / commit"]
        self.check((0, 1), sessions, (0, 1, 2, 0, 1, 2, 0, 1, 2))
        self.check((1, 0), sessions, (0, 1, 2, 0, 1, 2, 1, 0, 2))
        self.check((1, 0), sessions, (0, 1, 2, 0, 1, 2, 1, 2, 0))
        self.check((1, 0), sessions, (0, 1, 2, 0, 1, 2, 2, 1, 0))
        self.check((2, 0), sessions, (0, 1, 2, 0, 1, 2, 2, 0, 1))

    def test_the_least_first(self):
        sessions = ["share / share / look / commit", "sole / look / commit"]
        self.check((0, 2), sessions, (0, 0, 1, 0, 1, 0, 1))
        self.check((2, 0), sessions, (0, 0, 1, 0, 1, 1, 0))
        sessions = ["share / look / commit", "share / look / commit", "sole / look / commit"]
        self.check((0, 2), sessions, (0, 1, 2, 0, 1, 2, 0, 1, 2))
        self.check((0, 2), sessions, (0, 1, 2, 0, 1, 2, 1, 0, 2))
        self.check((0, 2), sessions, (1, 0, 2, 0, 1, 2, 1, 0, 2))

    def test_22_and_23_together(self):
        # The end at 5 has written only behind the span of the statement at 2.
        sessions = ["change a = 1 / look / commit", "begin repeatable / look / sole / look / commit"]
        self.check((1, 2), sessions, (1, 0, 1, 1, 0, 0, 1))
        # The end at 2 is told rather than the act at 3, and rather than the act at 5.
        sessions = ["change a = 1 / commit / sole / look / commit", "begin repeatable / look / sole / look / commit"]
        self.check((2, 4), sessions, (1, 0, 0, 0, 1, 1, 0, 0, 1))
        self.check((2, 3), sessions, (1, 0, 0, 1, 1, 0, 0, 0, 1))
        # The act at 1 is told rather than the end at 3.
        sessions = ["change a = 1 / commit", "sole / look / commit", "begin repeatable / look / sole / look / commit"]
        self.check((1, 5), sessions, (2, 1, 0, 0, 1, 2, 2, 1, 2))
        # The acts at 1 and 2 are told rather than the end at 5 and the statement at 7.
        sessions = ["change a = 1 / look / commit", "share / look / commit", "begin repeatable / look / share / commit"]
        self.check((1, 2), sessions, (2, 0, 1, 0, 1, 0, 1, 2, 2))

    def test_acts_of_a_row_that_is_barred_by_22_count_in_23(self):
        weaving = (2, 1, 0, 0, 1, 2, 2, 2, 1)
        for word in ("share", "sole", "change a = 2", "remove", "sole where a = 0"):
            sessions = ["change a = 1 / commit", "sole / look / commit", f"begin repeatable / look / {word} / look / commit"]
            self.check((5, 1), sessions, weaving)
        # A `sole` leaves a row that was removed, so it does not act; a `put` acts on the name.
        for word, wanted in (("sole", (3, 5)), ("put k (2)", (5, 1)), ("put k (2) or change a = 1", (5, 1))):
            sessions = ["remove / commit", "put k (1) / look / commit", f"begin repeatable / look / {word} / look / commit"]
            self.check(wanted, sessions, weaving, ("k", (0,)))

    def test_what_a_row_that_is_barred_by_22_goes_on_with(self):
        weaving = (1, 0, 0, 2, 1, 1, 2)
        for word, wanted in (("change a = 2", (5, 3)), ("remove", (5, 3)), ("sole", (2, 4)), ("change a = 2 where a = 0", (2, 4)),
                             ("change a = 2 where a < 2", (5, 3)), ("put k (0) or change a = 2", (5, 3)), ("put k (0)", (2, 4))):
            sessions = ["change a = 1 / commit", f"begin repeatable / look / {word} / commit", "begin repeatable / sole / commit"]
            self.check(wanted, sessions, weaving, ("k", (0,)) if "put" in word else ROW)

    def test_a_first_that_is_greater(self):
        self.check((3, 0), ["sole / look / look / commit", "sole / look / commit"], (0, 0, 0, 1, 1, 1, 0))


if __name__ == "__main__":
    unittest.main()
