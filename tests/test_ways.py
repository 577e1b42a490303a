"""The way of one row: what each statement does with it, alone and beside others."""

import unittest

from newestrow.errors import BadKind, BadWeaving, Bars, NotPossible
from newestrow.ways import Way, way
from building import ANY, mix_of


class WayTest(unittest.TestCase):
    def check(self, sessions, weaving, kind, end, returned, versions, acts, columns="a=2"):
        """Compare a way with what it must be; returned has one entry for each unit, in their order."""
        mix = mix_of(columns, *sessions)
        with self.subTest(sessions=sessions, weaving=weaving, kind=kind):
            found = way(mix, weaving, kind)
            self.assertIsInstance(found, Way)
            self.assertEqual(found.kind, kind)
            self.assertEqual(found.end, end)
            self.assertEqual(found.returned, dict(zip(mix.units(), returned, strict=True)))
            self.assertEqual(found.versions, versions)
            self.assertEqual(found.acts, acts)

    def alone(self, session, kind, end, returned, versions, acts, columns="a=2"):
        """Check a mix of one session in its only weaving."""
        many = len(mix_of(columns, session))
        self.check([session], (0,) * many, kind, end, returned, versions, acts, columns)


class OneSessionTest(WayTest):
    def test_look(self):
        self.alone("look / commit", (None, (1,)), (1,), [(1,)], (), ())
        self.alone("look where a = 2 / commit", (None, (1,)), (1,), [None], (), ())
        self.alone("look where name = k / commit", (None, (1,)), (1,), [None], (), ())
        self.alone("look where name != k / commit", (None, (1,)), (1,), [(1,)], (), ())
        self.alone("look where name = k / commit", ("k", (1,)), (1,), [(1,)], (), ())
        self.alone("look where name = k / commit", ("k", None), None, [None], (), ())
        self.alone("look / look where name = k / commit", ("k", None), None, [None, None], (), ())

    def test_share_and_sole(self):
        for mode in ("share", "sole"):
            self.alone(f"{mode} / commit", (None, (1,)), (1,), [(1,)], (), ((0, mode, 1),))
            self.alone(f"{mode} where a != 1 / commit", (None, (1,)), (1,), [None], (), ())
            self.alone(f"look / {mode} where name = k / look / commit", ("k", (2,)), (2,), [(2,), (2,), (2,)], (), ((1, mode, 3),))
            self.alone(f"{mode} where name = k / commit", ("k", None), None, [None], (), ())

    def test_change(self):
        self.alone("change a = a + 1 / commit", (None, (0,)), (1,), [(1,)], ((1, (1,)),), ((0, "sole", 1),))
        self.alone("change a = a + 1 where a = 1 / commit", (None, (0,)), (0,), [None], (), ())
        self.alone("change a = a / commit", (None, (2,)), (2,), [(2,)], ((1, (2,)),), ((0, "sole", 1),))
        self.alone("change a = 9 / change a = a - 1 / look / commit", (None, (0,)), (1,), [(2,), (1,), (1,)], ((3, (1,)),),
                   ((0, "sole", 3), (1, "sole", 3)))
        self.alone("change b = a, a = b where a < b / commit", (None, (1, 2)), (2, 1), [(2, 1)], ((1, (2, 1)),), ((0, "sole", 1),),
                   "a=2 b=2")
        self.alone("change a = 1 where name = k / commit", ("k", (2,)), (1,), [(1,)], ((1, (1,)),), ((0, "sole", 1),))
        self.alone("change a = 1 where name = k / commit", (None, (2,)), (2,), [None], (), ())
        self.alone("change a = 1 where name = k / commit", ("k", None), None, [None], (), ())

    def test_remove(self):
        self.alone("remove / commit", (None, (1,)), None, [(1,)], ((1, None),), ((0, "sole", 1),))
        self.alone("remove where a = 2 / look / commit", (None, (1,)), (1,), [None, (1,)], (), ())
        self.alone("remove / look / change a = 1 / sole / commit", (None, (2,)), None, [(2,), None, None, None], ((4, None),),
                   ((0, "sole", 4),))
        self.alone("change a = 0 / remove / commit", (None, (2,)), None, [(0,), (0,)], ((2, None),), ((0, "sole", 2), (1, "sole", 2)))

    def test_put_without_change(self):
        for text in ("put k (1)", "put k (1) or nothing"):
            self.alone(f"{text} / commit", ("k", None), (1,), [(1,)], ((1, (1,)),), ((0, "sole", 1),))
            self.alone(f"{text} / commit", ("k", (2,)), (2,), [None], (), ((0, "sole", 1),))
            self.alone(f"{text} / commit", ("k", (1,)), (1,), [None], (), ((0, "sole", 1),))
            self.alone(f"{text} / commit", (None, (2,)), (2,), [None], (), ())
            self.alone(f"{text} / look where name = j / commit", ("j", (2,)), (2,), [None, (2,)], (), ())
            self.alone(f"{text} / look where name = j / commit", ("j", None), None, [None, None], (), ())
            self.alone(f"{text} / look / {text} / commit", ("k", None), (1,), [(1,), (1,), None], ((3, (1,)),),
                       ((0, "sole", 3), (2, "sole", 3)))

    def test_put_with_change(self):
        text = "put k (0) or change a = a + 1 where a < 2"
        self.alone(f"{text} / commit", ("k", None), (0,), [(0,)], ((1, (0,)),), ((0, "sole", 1),))
        self.alone(f"{text} / commit", ("k", (0,)), (1,), [(1,)], ((1, (1,)),), ((0, "sole", 1),))
        self.alone(f"{text} / commit", ("k", (2,)), (2,), [None], (), ((0, "sole", 1),))
        self.alone(f"{text} / commit", (None, (0,)), (0,), [None], (), ())
        self.alone("put k (0) or change a = a / commit", ("k", (2,)), (2,), [(2,)], ((1, (2,)),), ((0, "sole", 1),))
        self.alone("put k (0) or change a = 1 where name = k / commit", ("k", (2,)), (1,), [(1,)], ((1, (1,)),), ((0, "sole", 1),))
        self.alone("put k (0) or change a = 1 where name != k / commit", ("k", (2,)), (2,), [None], (), ((0, "sole", 1),))
        self.alone(f"{text} / {text} / {text} / {text} / commit", ("k", None), (2,), [(0,), (1,), (2,), None], ((4, (2,)),),
                   ((0, "sole", 4), (1, "sole", 4), (2, "sole", 4), (3, "sole", 4)))

    def test_put_and_remove(self):
        self.alone("put k (1) / remove / commit", ("k", None), None, [(1,), (1,)], ((2, None),), ((0, "sole", 2), (1, "sole", 2)))
        self.alone("remove / put k (1) / commit", ("k", (2,)), (1,), [(2,), (1,)], ((2, (1,)),), ((0, "sole", 2), (1, "sole", 2)))
        self.alone("remove / put k (1) / change a = 0 where name = k / commit", ("k", (2,)), (0,), [(2,), (1,), (0,)], ((3, (0,)),),
                   ((0, "sole", 3), (1, "sole", 3), (2, "sole", 3)))

    def test_undone_ends(self):
        self.alone("change a = 1 / look / undo", (None, (0,)), (0,), [], (), ((0, "sole", 2),))
        self.alone("remove / undo", (None, (0,)), (0,), [], (), ((0, "sole", 1),))
        self.alone("put k (1) / share where name = k / undo", ("k", None), None, [], (), ((0, "sole", 2), (1, "share", 2)))
        self.alone("change a = 1 / undo / look / commit", (None, (0,)), (0,), [(0,)], (), ((0, "sole", 1),))

    def test_marks_and_backs(self):
        self.alone("change a = 1 / mark / change a = 2 / back / look / commit", (None, (0,)), (1,), [(1,), (1,)], ((4, (1,)),),
                   ((0, "sole", 4), (1, "sole", 2)))
        self.alone("mark / change a = 2 / back / look / commit", (None, (0,)), (0,), [(0,)], (), ((0, "sole", 1),))
        self.alone("mark / remove / back / change a = 1 / commit", (None, (0,)), (1,), [(1,)], ((3, (1,)),),
                   ((0, "sole", 1), (2, "sole", 3)))
        self.alone("mark / put k (1) / back / put k (2) / commit", ("k", None), (2,), [(2,)], ((3, (2,)),),
                   ((0, "sole", 1), (2, "sole", 3)))
        self.alone("mark / share / mark / sole / back / back / commit", (None, (0,)), (0,), [(0,)], (),
                   ((0, "share", 4), (1, "sole", 2)))
        self.alone("mark / change a = 1 / back / change a = a + 1 / back / look / commit", (None, (0,)), (0,), [(0,)], (),
                   ((0, "sole", 1), (2, "sole", 3)))

    def test_a_statement_that_a_later_back_undoes_is_seen_until_then(self):
        self.alone("mark / change a = 2 / mark / change a = a - 1 / sole where a = 1 / commit", (None, (0,)), (1,),
                   [(2,), (1,), (1,)], ((3, (1,)),), ((0, "sole", 3), (1, "sole", 3), (2, "sole", 3)))
        self.alone("mark / change a = 2 / sole where a = 2 / back / sole where a = 0 / commit", (None, (0,)), (0,), [(0,)], (),
                   ((0, "sole", 2), (1, "sole", 2), (3, "sole", 4)))

    def test_a_mark_that_the_back_does_not_reach(self):
        self.alone("mark / change a = 1 / mark / change a = 2 / back / commit", (None, (0,)), (1,), [(1,)], ((3, (1,)),),
                   ((0, "sole", 3), (1, "sole", 2)))

    def test_undone_ends_with_backs(self):
        self.alone("change a = 1 / mark / change a = 2 / back / undo", (None, (0,)), (0,), [], (), ((0, "sole", 3), (1, "sole", 2)))

    def test_repeatable(self):
        self.alone("begin repeatable / look / change a = 1 / look / commit", (None, (0,)), (1,), [(0,), (1,), (1,)], ((3, (1,)),),
                   ((1, "sole", 3),))
        self.alone("begin repeatable / put k (1) / look / mark / remove / back / commit", ("k", None), (1,), [(1,), (1,)], ((4, (1,)),),
                   ((0, "sole", 4), (2, "sole", 3)))

    def test_transactions_of_one_session(self):
        self.alone("change a = 1 / commit / change a = a + 1 where a = 1 / commit / look / commit", (None, (0,)), (2,),
                   [(1,), (2,), (2,)], ((1, (1,)), (3, (2,))), ((0, "sole", 1), (2, "sole", 3)))
        self.alone("put k (1) / commit / remove / commit / put k (2) / commit", ("k", None), (2,), [(1,), (1,), (2,)],
                   ((1, (1,)), (3, None), (5, (2,))), ((0, "sole", 1), (2, "sole", 3), (4, "sole", 5)))
        self.alone("begin repeatable / look / commit / begin repeatable / change a = 1 / commit / begin repeatable / look / commit",
                   (None, (0,)), (1,), [(0,), (1,), (1,)], ((3, (1,)),), ((2, "sole", 3),))

    def test_table(self):
        self.alone("table / change a = 1 / table / commit", (None, (0,)), (1,), [(1,)], ((3, (1,)),), ((1, "sole", 3),))
        self.alone("begin repeatable / table / commit", (None, (0,)), (0,), [], (), ())


class TwoSessionsTest(WayTest):
    def test_the_example_of_the_document(self):
        sessions = ["change a = a + 1 where a = 0 / commit", "change a = 0 where a = 1 / commit"]
        self.check(sessions, (0, 1, 0, 1), (None, (0,)), (1,), [(1,), None], ((2, (1,)),), ((0, "sole", 2),))
        self.check(sessions, (0, 1, 0, 1), (None, (1,)), (0,), [None, (0,)], ((3, (0,)),), ((1, "sole", 3),))
        self.check(sessions, (0, 1, 0, 1), (None, (2,)), (2,), [None, None], (), ())
        self.check(sessions, (0, 0, 1, 1), (None, (0,)), (0,), [(1,), (0,)], ((1, (1,)), (3, (0,))), ((0, "sole", 1), (2, "sole", 3)))
        self.check(sessions, (1, 1, 0, 0), (None, (1,)), (1,), [(1,), (0,)], ((1, (0,)), (3, (1,))), ((0, "sole", 1), (2, "sole", 3)))

    def test_a_row_that_is_read_again(self):
        sessions = ["change a = a + 1 where a < 2 / commit"] * 2
        self.check(sessions, (0, 1, 0, 1), (None, (0,)), (2,), [(1,), (2,)], ((2, (1,)), (3, (2,))), ((0, "sole", 2), (1, "sole", 3)))
        self.check(sessions, (1, 0, 1, 0), (None, (0,)), (2,), [(2,), (1,)], ((2, (1,)), (3, (2,))), ((0, "sole", 2), (1, "sole", 3)))
        self.check(sessions, (0, 1, 1, 0), (None, (0,)), (2,), [(2,), (1,)], ((2, (1,)), (3, (2,))), ((0, "sole", 3), (1, "sole", 2)))

    def test_a_row_that_is_held_but_left(self):
        sessions = ["change a = a + 1 where a < 2 / commit"] * 2
        self.check(sessions, (0, 1, 0, 1), (None, (1,)), (2,), [(2,), None], ((2, (2,)),), ((0, "sole", 2), (1, "sole", 3)))
        for word in ("sole where a = 0", "share where a = 0", "remove where a = 0", "change a = 2 where a = 0"):
            mode = "share" if word.startswith("share") else "sole"
            self.check(["change a = 1 / commit", f"{word} / commit"], (0, 1, 0, 1), (None, (0,)), (1,), [(1,), None], ((2, (1,)),),
                       ((0, "sole", 2), (1, mode, 3)))
        self.check(["change a = 1 / commit", "sole where a = 0 / look / commit"], (0, 1, 0, 1, 1), (None, (0,)), (1,),
                   [(1,), None, (1,)], ((2, (1,)),), ((0, "sole", 2), (1, "sole", 4)))

    def test_each_word_reads_again(self):
        for word, end, returned, versions in (
            ("share where a < 2", (1,), (1,), ()),
            ("sole where a < 2", (1,), (1,), ()),
            ("change a = a + 1 where a < 2", (2,), (2,), ((3, (2,)),)),
            ("remove where a < 2", None, (1,), ((3, None),)),
        ):
            mode = "share" if word.startswith("share") else "sole"
            self.check(["change a = 1 / commit", f"{word} / commit"], (0, 1, 0, 1), (None, (0,)), end, [(1,), returned],
                       ((2, (1,)), *versions), ((0, "sole", 2), (1, mode, 3)))

    def test_look_does_not_read_again(self):
        self.check(["change a = 1 / commit", "look where a = 0 / commit"], (0, 1, 0, 1), (None, (0,)), (1,), [(1,), (0,)],
                   ((2, (1,)),), ((0, "sole", 2),))
        self.check(["change a = 1 / commit", "look where a = 1 / commit"], (0, 1, 0, 1), (None, (0,)), (1,), [(1,), None],
                   ((2, (1,)),), ((0, "sole", 2),))
        self.check(["remove / commit", "look / commit"], (0, 1, 0, 1), (None, (0,)), None, [(0,), (0,)], ((2, None),),
                   ((0, "sole", 2),))

    def test_a_row_that_would_be_chosen_only_now_is_not(self):
        self.check(["change a = 1 / commit", "remove where a = 1 / commit"], (0, 1, 0, 1), (None, (0,)), (1,), [(1,), None],
                   ((2, (1,)),), ((0, "sole", 2),))
        self.check(["put k (1) / commit", "remove / commit"], (0, 1, 0, 1), ("k", None), (1,), [(1,), None], ((2, (1,)),),
                   ((0, "sole", 2),))

    def test_the_condition_holds_again_without_a_commit_between(self):
        self.check(["change a = 1 / commit", "sole where a = 1 / commit"], (0, 0, 1, 1), (None, (0,)), (1,), [(1,), (1,)],
                   ((1, (1,)),), ((0, "sole", 1), (2, "sole", 3)))

    def test_a_removed_row_is_left(self):
        for word in ("share", "sole", "remove", "change a = 1"):
            self.check(["remove / commit", f"{word} / commit"], (0, 1, 0, 1), (None, (0,)), None, [(0,), None], ((2, None),),
                       ((0, "sole", 2),))

    def test_a_row_that_is_removed_and_put_again(self):
        again = "remove where name = k / put k (1) / commit"
        for word in ("share", "sole", "remove", "change a = 2"):
            self.check([again, f"{word} / commit"], (0, 0, 1, 0, 1), ("k", (0,)), (1,), [(0,), (1,), None], ((3, (1,)),),
                       ((0, "sole", 3), (1, "sole", 3)))
            self.check(["remove / commit / put k (1) / commit", f"{word} / commit"], (0, 1, 0, 0, 0, 1), ("k", (0,)), (1,),
                       [(0,), (1,), None], ((2, None), (4, (1,))), ((0, "sole", 2), (3, "sole", 4)))
        self.check([again, "change a = 2 / commit"], (0, 0, 0, 1, 1), ("k", (0,)), (2,), [(0,), (1,), (2,)], ((2, (1,)), (4, (2,))),
                   ((0, "sole", 2), (1, "sole", 2), (3, "sole", 4)))

    def test_a_life_that_is_put_is_read_again_itself(self):
        self.check(["put k (0) / commit / change a = 1 / commit", "sole where a < 2 / commit"], (0, 0, 1, 0, 0, 1), ("k", None), (1,),
                   [(0,), (1,), (1,)], ((1, (0,)), (4, (1,))), ((0, "sole", 1), (2, "sole", 5), (3, "sole", 4)))

    def test_put_reads_what_is_newest(self):
        for put, end, returned, versions in (
            ("put k (2)", (1,), None, ()),
            ("put k (2) or nothing", (1,), None, ()),
            ("put k (2) or change a = a + 1", (2,), (2,), ((3, (2,)),)),
            ("put k (2) or change a = a + 1 where a = 0", (1,), None, ()),
            ("put k (2) or change a = a - 1 where a = 1", (0,), (0,), ((3, (0,)),)),
        ):
            self.check(["put k (1) / commit", f"{put} / commit"], (0, 1, 0, 1), ("k", None), end, [(1,), returned],
                       ((2, (1,)), *versions), ((0, "sole", 2), (1, "sole", 3)))
            self.check(["change a = 1 / commit", f"{put} / commit"], (0, 1, 0, 1), ("k", (0,)), end, [(1,), returned],
                       ((2, (1,)), *versions), ((0, "sole", 2), (1, "sole", 3)))
            self.check(["remove / commit", f"{put} / commit"], (0, 1, 0, 1), ("k", (0,)), (2,), [(0,), (2,)],
                       ((2, None), (3, (2,))), ((0, "sole", 2), (1, "sole", 3)))

    def test_what_is_not_committed_is_not_seen(self):
        self.check(["change a = 1 / look / commit", "look / sole where a = 0 / look / commit"], (0, 1, 0, 1, 0, 1, 1), (None, (0,)), (1,),
                   [(1,), (1,), (0,), None, (1,)], ((4, (1,)),), ((0, "sole", 4), (3, "sole", 6)))
        self.check(["change a = 1 / undo", "look / sole where a = 0 / commit"], (0, 1, 1, 0, 1), (None, (0,)), (0,), [(0,), (0,)], (),
                   ((0, "sole", 3), (2, "sole", 4)))

    def test_what_a_back_undid_is_not_written(self):
        self.check(["mark / change a = 1 / back / commit", "sole / commit"], (0, 0, 1, 0, 1), (None, (0,)), (0,), [(0,)], (),
                   ((0, "sole", 1), (2, "sole", 4)))
        self.check(["mark / change a = 1 / back / commit", "change a = 2 where a = 0 / commit"], (0, 1, 0, 0, 1), (None, (0,)), (2,),
                   [(2,)], ((4, (2,)),), ((0, "sole", 2), (1, "sole", 4)))

    def test_the_own_version_is_not_read_again(self):
        self.check(["change a = 1 where name = k / sole where a = 1 / commit", "change a = 2 where name = j / commit"],
                   (0, 1, 0, 1, 0), ("k", (0,)), (1,), [(1,), (1,), None], ((4, (1,)),), ((0, "sole", 4), (2, "sole", 4)))
        self.check(["change a = 1 / commit", "change a = a + 1 / change a = a - 1 where a = 2 / commit"], (0, 1, 0, 1, 1),
                   (None, (0,)), (1,), [(1,), (2,), (1,)], ((2, (1,)), (4, (1,))), ((0, "sole", 2), (1, "sole", 4), (3, "sole", 4)))

    def test_shared_holds_at_one_time(self):
        self.check(["share / look / commit", "share / look / commit"], (0, 1, 0, 1, 0, 1), (None, (0,)), (0,), [(0,)] * 4, (),
                   ((0, "share", 4), (1, "share", 5)))

    def test_names(self):
        sessions = ["change a = 1 where name = k / commit", "change a = 2 where name != k / commit"]
        self.check(sessions, (0, 1, 0, 1), ("k", (0,)), (1,), [(1,), None], ((2, (1,)),), ((0, "sole", 2),))
        self.check(sessions, (0, 1, 0, 1), (None, (0,)), (2,), [None, (2,)], ((3, (2,)),), ((1, "sole", 3),))


class RepeatableTest(WayTest):
    def test_look_sees_the_first_snapshot(self):
        for first in ("look", "share where false", "sole where false", "remove where false", "change a = 1 where false", "put k (1)"):
            self.check(["change a = 1 / commit", f"begin repeatable / {first} / look / commit"], (1, 0, 0, 1, 1), (None, (0,)), (1,),
                       [(1,), (0,) if first == "look" else None, (0,)], ((2, (1,)),), ((1, "sole", 2),))
            self.check(["change a = 1 / commit", f"begin repeatable / mark / {first} / back / look / commit"], (1, 0, 0, 1, 1, 1),
                       (None, (0,)), (1,), [(1,), (0,)], ((2, (1,)),), ((1, "sole", 2),))

    def test_what_takes_no_snapshot(self):
        self.check(["change a = 1 / commit", "begin repeatable / table / look / commit"], (0, 0, 1, 1, 1), (None, (0,)), (1,),
                   [(1,), (1,)], ((1, (1,)),), ((0, "sole", 1),))
        self.check(["look / change a = 1 / commit", "begin repeatable / mark / back / look / commit"], (1, 0, 0, 0, 1, 1), (None, (0,)),
                   (1,), [(0,), (1,), (1,)], ((3, (1,)),), ((2, "sole", 3),))

    def test_committed_sees_a_snapshot_of_each_statement(self):
        self.check(["change a = 1 / commit", "look / look / commit"], (1, 0, 0, 1, 1), (None, (0,)), (1,), [(1,), (0,), (1,)],
                   ((2, (1,)),), ((1, "sole", 2),))

    def test_the_own_version_before_the_snapshot(self):
        self.check(["look / commit", "begin repeatable / look / change a = 1 / look / mark / remove / look / commit"],
                   (1, 1, 1, 1, 0, 1, 0, 1), (None, (0,)), None, [(0,), (0,), (1,), (1,), (1,), None], ((7, None),),
                   ((1, "sole", 7), (3, "sole", 7)))
        self.check(["look / commit", "begin repeatable / look / mark / change a = 1 / back / look / commit"], (1, 1, 0, 1, 1, 0, 1),
                   (None, (0,)), (0,), [(0,), (0,), (0,)], (), ((1, "sole", 3),))

    def test_a_removed_row_is_still_seen(self):
        self.check(["remove / commit", "begin repeatable / look / look / sole where a = 1 / commit"], (1, 0, 0, 1, 1, 1), (None, (0,)), None,
                   [(0,), (0,), (0,), None], ((2, None),), ((1, "sole", 2),))

    def test_each_transaction_has_its_own_snapshot(self):
        self.check(["change a = 1 / commit", "begin repeatable / look / commit / begin repeatable / look / commit"],
                   (1, 0, 0, 1, 1, 1), (None, (0,)), (1,), [(1,), (0,), (1,)], ((2, (1,)),), ((1, "sole", 2),))

    def test_a_row_that_was_written_before_the_snapshot(self):
        self.check(["change a = 1 / commit", "begin repeatable / change a = a + 1 / commit"], (0, 0, 1, 1), (None, (0,)), (2,),
                   [(1,), (2,)], ((1, (1,)), (3, (2,))), ((0, "sole", 1), (2, "sole", 3)))

    def test_a_row_that_was_only_held_between(self):
        self.check(["sole / commit", "begin repeatable / look / change a = a + 1 / commit"], (1, 0, 0, 1, 1), (None, (0,)), (1,),
                   [(0,), (0,), (1,)], ((4, (1,)),), ((1, "sole", 2), (3, "sole", 4)))
        self.check(["change a = 2 / undo", "begin repeatable / look / change a = a + 1 / commit"], (1, 0, 0, 1, 1), (None, (0,)), (1,),
                   [(0,), (1,)], ((4, (1,)),), ((1, "sole", 2), (3, "sole", 4)))

    def test_a_row_that_is_not_chosen(self):
        self.check(["change a = 1 / commit", "begin repeatable / look / change a = 2 where a = 1 / commit"], (1, 0, 0, 1, 1),
                   (None, (0,)), (1,), [(1,), (0,), None], ((2, (1,)),), ((1, "sole", 2),))

    def test_the_example_for_raised_parts(self):
        sessions = ["sole where a = 2 / look where a = 1 / commit", "change a = 1 where a = 0 / commit",
                    "begin repeatable / remove where a = 2 / remove where a = 1 / commit"]
        weaving = (2, 0, 1, 1, 0, 0, 2, 2)
        self.check(sessions, weaving, (None, (2,)), None, [(2,), None, None, (2,), None], ((7, None),),
                   ((0, "sole", 7), (1, "sole", 5)))
        self.check(sessions, weaving, (None, (0,)), (1,), [None, (1,), (1,), None, None], ((3, (1,)),), ((2, "sole", 3),))


class ThreeSessionsTest(WayTest):
    def test_the_last_commit_before_the_end_of_the_span_counts(self):
        sessions = ["change a = a + 1 / commit", "change a = a + 1 / commit", "change a = 0 where a < 2 / commit"]
        self.check(sessions, (2, 0, 0, 1, 1, 2), (None, (0,)), (2,), [(1,), (2,), None], ((2, (1,)), (4, (2,))),
                   ((0, "sole", 5), (1, "sole", 2), (3, "sole", 4)))
        self.check(sessions, (2, 0, 0, 1, 2, 1), (None, (0,)), (1,), [(1,), (1,), (0,)], ((2, (1,)), (4, (0,)), (5, (1,))),
                   ((0, "sole", 4), (1, "sole", 2), (3, "sole", 5)))

    def test_two_wait_for_one(self):
        sessions = ["change a = 1 where a = 0 / commit", "change a = 2 where a = 0 / commit", "remove where a < 2 / commit"]
        self.check(sessions, (0, 1, 2, 0, 1, 2), (None, (0,)), None, [(1,), None, (1,)], ((3, (1,)), (5, None)),
                   ((0, "sole", 3), (1, "sole", 4), (2, "sole", 5)))
        self.check(sessions, (0, 1, 2, 0, 2, 1), (None, (0,)), None, [(1,), None, (1,)], ((3, (1,)), (4, None)),
                   ((0, "sole", 3), (2, "sole", 4)))


class ErrorsTest(unittest.TestCase):
    MIX = mix_of("a=2", "table / change a = 1 where name = k / commit", "put k (1) / commit")

    def raised(self, *given, mix=None):
        """Return the error that way raises."""
        try:
            way(self.MIX if mix is None else mix, *given)
        except (BadWeaving, NotPossible, BadKind, Bars) as wrong:
            return wrong
        return None

    def test_kinds(self):
        for kind in self.MIX.kinds():
            self.assertIsNone(self.raised((0, 0, 0, 1, 1), kind))
        for kind in (*ANY, (None, None), (None, ()), (None, (3,)), (None, (-1,)), (None, (0, 0)), (None, [0]), [None, (0,)], (None, 0),
                     (None, (True,)), (None, (False,)), ("k", (True,)), ("k", ()), ("k", (3,)), ("k", 1), ("k", False), ("j", (0,)),
                     ("j", None), ("", None), (True, (0,)), (0, (0,)), (None, (0,), ()), ("k",), (("k",), (0,)), (["k"], (0,)), "k0",
                     ("k", ((0,),)), (None, ("0",)), (None, (None,)), ((), ())):
            if kind not in [("k", None)]:
                wrong = self.raised((0, 0, 0, 1, 1), kind)
                self.assertIsInstance(wrong, BadKind, kind)
                self.assertEqual(wrong.kind, kind)

    def test_a_table_with_more_columns(self):
        mix = mix_of("a=1 b=3", "look / commit")
        self.assertIsNone(self.raised((0, 0), (None, (1, 3)), mix=mix))
        for kind in ((None, (3, 1)), (None, (1,)), (None, (1, 3, 0)), (None, (1, True)), (None, None)):
            self.assertIsInstance(self.raised((0, 0), kind, mix=mix), BadKind)

    def test_weavings(self):
        for weaving, at in ((None, -1), ([0, 0, 0, 1, 1], -1), ((), 0), ((0, 0, 0, 1), 4), ((0, 0, 0, 1, True), 4), ((0, 0, 0, 0, 1), 3),
                            ((0, 0, 2), 2), ((0, 0, 0, 1, 1, 1), 5)):
            wrong = self.raised(weaving, (None, (0,)))
            self.assertIsInstance(wrong, BadWeaving)
            self.assertEqual(wrong.at, at)

    def test_possible(self):
        for weaving, at in (((0, 1, 0, 0, 1), 1), ((0, 0, 1, 0, 1), 2), ((1, 0, 0, 0, 1), 1), ((1, 0, 1, 0, 0), 1)):
            wrong = self.raised(weaving, (None, (0,)))
            self.assertIsInstance(wrong, NotPossible)
            self.assertEqual(wrong.at, at)

    def test_several_errors(self):
        self.assertIsInstance(self.raised((0, 1, 0, 0), "k"), BadWeaving)
        self.assertIsInstance(self.raised((0, 1, 0, 0, 1), "k"), NotPossible)
        mix = mix_of("a=1", "sole / look / commit", "sole / look / commit", "table / commit")
        self.assertIsInstance(self.raised((0, 1, 0, 1, 2, 0, 1, 2), (None, (0,)), mix=mix), NotPossible)
        self.assertIsInstance(self.raised((0, 1, 0, 1, 0, 1, 2, 2), (None, None), mix=mix), BadKind)
        self.assertIsInstance(self.raised((0, 1, 0, 1, 0, 1, 2, 2), (None, (0,)), mix=mix), Bars)

    def test_by_name(self):
        found = way(kind=("k", None), mix=self.MIX, weaving=(0, 0, 0, 1, 1))
        self.assertEqual(found.end, (1,))


class ObjectTest(unittest.TestCase):
    def test_equal(self):
        mix = mix_of("a=2", "change a = 1 where a = 0 / commit", "look / commit")
        one = way(mix, (0, 0, 1, 1), (None, (0,)))
        self.assertIs(one == way(mix, (0, 0, 1, 1), (None, (0,))), True)
        self.assertIs(one != way(mix, (0, 0, 1, 1), (None, (0,))), False)
        equal = mix_of("a=2", "change a = 0 + 1 where a = 0 / commit", "look / commit")
        self.assertIs(one == way(equal, (0, 0, 1, 1), (None, (0,))), True)

    def test_what_differs_in_one_thing(self):
        looks = mix_of("a=2", "look / commit")
        base = way(looks, (0, 0), (None, (0,)))
        for other in (
            way(looks, (0, 0), (None, (1,))),
            way(mix_of("a=2", "change a = 1 / undo / look / commit"), (0,) * 4, (None, (0,))),
            way(mix_of("a=2", "change a = a / commit"), (0, 0), (None, (0,))),
            way(mix_of("a=2", "share / commit"), (0, 0), (None, (0,))),
            way(mix_of("a=2", "look where a = 1 / commit"), (0, 0), (None, (0,))),
            way(mix_of("a=2", "look / look / commit"), (0,) * 3, (None, (0,))),
        ):
            self.assertIs(base == other, False)
            self.assertIs(base != other, True)
        ways = [way(mix_of("a=2", f"{text} / commit"), (0, 0), (None, (2,))) for text in ("share", "sole", "look")]
        for at, one in enumerate(ways):
            self.assertEqual([one == other for other in ways], [at == place for place in range(3)])

    def test_each_of_its_parts_counts(self):
        mix = mix_of("a=2", "change a = 1 / commit", "look / commit")
        for name, value in (("kind", (None, (1,))), ("end", None), ("returned", {}), ("versions", ()), ("acts", ())):
            one, other = (way(mix, (0, 0, 1, 1), (None, (0,))) for _ in range(2))
            self.assertTrue(one == other)
            setattr(other, name, value)
            self.assertFalse(one == other, name)

    def test_other_objects(self):
        one = way(mix_of("a=2", "look / commit"), (0, 0), (None, (0,)))
        for other in (*ANY, (one.kind, one.end, one.returned, one.versions, one.acts), object(), Way):
            self.assertIs(one == other, False)
            self.assertIs(other == one, False)
            self.assertIs(one != other, True)

    def test_kinds_of_values(self):
        found = way(mix_of("a=2", "change a = 1 / look / commit"), (0, 0, 0), (None, (0,)))
        self.assertIsInstance(found.returned, dict)
        for thing in (found.kind, found.end, found.versions, found.acts, found.versions[0], found.acts[0]):
            self.assertIsInstance(thing, tuple)

    def test_what_is_returned_is_new(self):
        mix = mix_of("a=2", "change a = 1 / look / commit")
        found = way(mix, (0, 0, 0), (None, (0,)))
        found.returned.clear()
        self.assertEqual(way(mix, (0, 0, 0), (None, (0,))).returned, {(0, 0, 0): (1,), (0, 0, 1): (1,)})

    def test_arguments_stay_as_they_are(self):
        mix = mix_of("a=2", "mark / change a = 1 / back / look where name = k / commit", "put k (1) / commit")
        before = str(mix)
        for kind in mix.kinds():
            way(mix, (0, 1, 0, 1, 0, 0), kind)
        self.assertEqual(str(mix), before)


if __name__ == "__main__":
    unittest.main()
