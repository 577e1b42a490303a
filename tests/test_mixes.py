"""Mixes: their bounds, what they tell of themselves, and when they are equal."""

import itertools
import unittest

from newestrow.errors import BadMix, TooMany
from newestrow.mixes import Mix, Transaction
from newestrow.statements import Statement
from newestrow.tables import Table
from building import ANY, mix_of

TABLE = Table([("a", 2)])
TWO = Table([("a", 1), ("b", 2)])


def made(*texts, table=TABLE, ends="commit", level="committed"):
    """Return a transaction of statements with these texts."""
    return Transaction([Statement(text, table) for text in texts], ends=ends, level=level)


def bad(table, sessions):
    """Return the field of BadMix or TooMany that is raised, None if nothing is."""
    try:
        Mix(table, sessions)
    except BadMix as wrong:
        return wrong.at
    except TooMany as wrong:
        return wrong.what
    return None


class BoundsTest(unittest.TestCase):
    def test_sessions(self):
        for many in range(1, 5):
            mix = Mix(TABLE, [[made("look")] for _ in range(many)])
            self.assertEqual(len(mix.sessions), many)
        self.assertEqual(bad(TABLE, [[made("mark")] for _ in range(5)]), "sessions")
        self.assertEqual(bad(TABLE, [[made("mark")] for _ in range(9)]), "sessions")

    def test_no_session(self):
        self.assertEqual(bad(TABLE, []), -1)

    def test_an_empty_session(self):
        self.assertEqual(bad(TABLE, [[]]), 0)
        self.assertEqual(bad(TABLE, [[made("look")], []]), 1)
        self.assertEqual(bad(TABLE, [[made("look")], [], []]), 1)
        self.assertEqual(bad(TABLE, [[made("look")], [made("look")], [made("look")], []]), 3)

    def test_a_statement_of_another_table(self):
        for other in (TWO, Table([("a", 3)]), Table([("b", 2)])):
            look = Statement("look", TABLE)
            self.assertEqual(bad(TABLE, [[made("look", table=other)]]), 0)
            self.assertEqual(bad(TABLE, [[made("look")], [made("look"), made("mark", table=other)]]), 1)
            mixed = Transaction([look, look, Statement("table", other)])
            self.assertEqual(bad(TABLE, [[made("look")], [made("look")], [mixed]]), 2)
            self.assertEqual(bad(other, [[made("look", table=other)], [made("look")]]), 1)

    def test_a_statement_of_an_equal_table(self):
        mix = Mix(TABLE, [[made("look")], [made("change a = 1", table=Table([("a", 2)]))]])
        self.assertEqual(len(mix), 4)
        self.assertEqual(bad(Table([("a", 1), ("b", 2)]), [[made("look", table=TWO)]]), None)

    def test_the_first_session_that_is_wrong(self):
        self.assertEqual(bad(TABLE, [[made("look")], [made("look", table=TWO)], []]), 1)
        self.assertEqual(bad(TABLE, [[made("look")], [], [made("look", table=TWO)]]), 1)

    def test_transactions(self):
        self.assertIsNone(bad(TABLE, [[made("look")] * 4]))
        self.assertIsNone(bad(TABLE, [[made("look")], [made("mark")] * 4, [made("look")]]))
        self.assertEqual(bad(TABLE, [[made("mark")] * 5]), "transactions")
        self.assertEqual(bad(TABLE, [[made("mark")], [made("mark")] * 5]), "transactions")

    def test_events(self):
        self.assertIsNone(bad(TABLE, [[made(*["look"] * 5)], [made(*["look"] * 5)]]))
        self.assertEqual(bad(TABLE, [[made(*["look"] * 5)], [made(*["look"] * 6)]]), "events")
        self.assertEqual(len(Mix(TABLE, [[made("look", "look")] * 4])), 12)
        self.assertEqual(bad(TABLE, [[made("look", "look")] * 4, [made("mark")]]), "events")
        self.assertIsNone(bad(TABLE, [[made("mark", *["look"] * 5)], [made("mark", "mark", "look", "look", "mark", "back"),
                                                                        made("look", ends="undo")]]))
        self.assertEqual(bad(TABLE, [[made("look")], [made(*["look"] * 6)], [made(*["look"] * 3)]]), "events")

    def test_names(self):
        self.assertIsNone(bad(TABLE, [[made("look where name = k or name = j")], [made("put j (1)")]]))
        self.assertEqual(bad(TABLE, [[made("look where name = k or name = j")], [made("put i (1)")]]), "names")
        self.assertEqual(bad(TABLE, [[made("look where name = k or name = j and name != i")]]), "names")
        self.assertEqual(bad(TABLE, [[made("put k (1)", "put j (1)", "put i (1)", ends="undo")]]), "names")
        self.assertEqual(bad(TABLE, [[made("put k (1)")], [made("mark", "put j (1)", "back")], [made("look where name = i")]]),
                         "names")

    def test_several_errors(self):
        long = made(*["look"] * 6)
        names = made("look where name = k or name = j or name = i")
        self.assertEqual(bad(TABLE, [[long] * 5, [], [names], [names], [names]]), 1)
        self.assertEqual(bad(TABLE, [[names], [long], [long], [long], [long] * 5]), "sessions")
        self.assertEqual(bad(TABLE, [[names], [long] * 5]), "transactions")
        self.assertEqual(bad(TABLE, [[names], [long], [long]]), "events")
        self.assertEqual(bad(TABLE, [[names]]), "names")
        self.assertEqual(bad(TABLE, [[names], [long] * 5, [made("look", table=TWO)]]), 2)
        self.assertEqual(bad(TWO, []), -1)


class ContentsTest(unittest.TestCase):
    def test_table_and_sessions(self):
        one, two, three = made("look"), made("mark", "remove", ends="undo"), made("sole", level="repeatable")
        mix = Mix(TABLE, [[one, two], [three]])
        self.assertEqual(mix.table, TABLE)
        self.assertIsInstance(mix.sessions, tuple)
        self.assertEqual(mix.sessions, ((one, two), (three,)))
        for session in mix.sessions:
            self.assertIsInstance(session, tuple)
        self.assertEqual(len(mix), 6)

    def test_of(self):
        one, two, three = made("look"), made("mark", "remove", ends="undo"), made("sole", level="repeatable")
        mix = Mix.of(TABLE, [one, two], [three])
        self.assertIsInstance(mix, Mix)
        self.assertEqual(mix.sessions, ((one, two), (three,)))
        self.assertEqual(mix, Mix(TABLE, [[one, two], [three]]))
        with self.assertRaises(BadMix) as caught:
            Mix.of(TABLE)
        self.assertEqual(caught.exception.at, -1)
        with self.assertRaises(BadMix) as caught:
            Mix.of(TABLE, [one], [])
        self.assertEqual(caught.exception.at, 1)
        with self.assertRaises(TooMany) as caught:
            Mix.of(TABLE, *[[one]] * 5)
        self.assertEqual(caught.exception.what, "sessions")

    def test_by_name(self):
        self.assertEqual(Mix(table=TABLE, sessions=[[made("look")]]), Mix(TABLE, [[made("look")]]))
        self.assertEqual(Mix.read(text="table a=2\nsession\nbegin\nlook\ncommit"), Mix(TABLE, [[made("look")]]))

    def test_lists_that_are_changed_later(self):
        sessions = [[made("look")], [made("change a = 1", "look where name = k")]]
        mix = Mix(TABLE, sessions)
        sessions[0].append(made("remove"))
        sessions[1][0] = made("put j (1)")
        sessions.append([made("sole")])
        self.assertEqual(mix, mix_of("a=2", "look / commit", "change a = 1 / look where name = k / commit"))
        self.assertEqual(len(mix), 5)
        self.assertEqual(mix.names(), ["k"])
        self.assertEqual(mix.transactions(), [(0, 0), (1, 0)])
        one = [made("look")]
        mix = Mix.of(TABLE, one, one)
        one.clear()
        self.assertEqual(mix.transactions(), [(0, 0), (1, 0)])

    def test_the_lists_stay_as_they_are(self):
        sessions = [[made("look")], [made("remove")]]
        before = [list(session) for session in sessions]
        Mix(TABLE, sessions)
        self.assertEqual(sessions, before)

    def test_names(self):
        self.assertEqual(mix_of("a=1", "look / commit").names(), [])
        self.assertEqual(mix_of("a=1", "look where name = k / commit").names(), ["k"])
        self.assertEqual(mix_of("a=1", "look where name = k / commit", "put b (1) / undo").names(), ["b", "k"])
        self.assertEqual(mix_of("a=1", "put k (1) / commit / mark / put b (1) / back / commit").names(), ["b", "k"])
        self.assertEqual(mix_of("a=1", "put k (1) or change a = 1 where name != ab / commit", "put k (0) / commit").names(),
                         ["ab", "k"])

    def test_kinds(self):
        self.assertEqual(mix_of("a=2", "look / commit").kinds(), [(None, (0,)), (None, (1,)), (None, (2,))])
        self.assertEqual(mix_of("a=1 b=2", "look / commit").kinds(),
                         [(None, (0, 0)), (None, (0, 1)), (None, (0, 2)), (None, (1, 0)), (None, (1, 1)), (None, (1, 2))])
        self.assertEqual(mix_of("a=1", "put k (1) / commit").kinds(),
                         [(None, (0,)), (None, (1,)), ("k", None), ("k", (0,)), ("k", (1,))])
        self.assertEqual(mix_of("a=1", "put z (1) / commit", "look where name = b / commit").kinds(),
                         [(None, (0,)), (None, (1,)), ("b", None), ("b", (0,)), ("b", (1,)), ("z", None), ("z", (0,)), ("z", (1,))])
        self.assertEqual(len(mix_of("a=3 b=3 c=3", "put z (1, 1, 1) / commit", "put b (0, 0, 0) / commit").kinds()), 64 * 3 + 2)

    def test_transactions(self):
        mix = mix_of("a=1", "look / commit / mark / undo", "table / commit", "look / undo / remove / commit / sole / commit")
        self.assertEqual(mix.transactions(), [(0, 0), (0, 1), (1, 0), (2, 0), (2, 1), (2, 2)])

    def test_units_of_each_word(self):
        mix = mix_of("a=1", "look / share / sole / change a = 1 / remove / put k (1) / commit")
        self.assertEqual(mix.units(), [(0, 0, 0), (0, 0, 1), (0, 0, 2), (0, 0, 3), (0, 0, 4), (0, 0, 5)])
        mix = mix_of("a=1", "table / mark / look / commit", "mark / back / put k (1) or change a = 1 / commit")
        self.assertEqual(mix.units(), [(0, 0, 2), (1, 0, 2)])
        self.assertEqual(mix_of("a=1", "table / commit", "mark / back / commit").units(), [])

    def test_units_of_several_transactions(self):
        mix = mix_of("a=1", "look / commit / share / undo / sole / commit", "mark / remove / commit / look / mark / look / commit")
        self.assertEqual(mix.units(), [(0, 0, 0), (0, 2, 0), (1, 0, 1), (1, 1, 0), (1, 1, 2)])

    def test_undone_ends(self):
        self.assertEqual(mix_of("a=1", "look / share / mark / sole / undo").units(), [])
        self.assertEqual(mix_of("a=1", "begin repeatable / look / undo", "look / commit").units(), [(1, 0, 0)])

    def test_marks_and_backs(self):
        for session, units in (
            ("look / mark / look / back", [0]),
            ("mark / look / look / back", []),
            ("mark / look / back / look", [3]),
            ("look / mark / back / look", [0, 3]),
            ("mark / look / mark / look / back", [1]),
            ("mark / look / mark / back / look", [1, 4]),
            ("mark / look / mark / look / back / back", [1]),
            ("look / mark / look / back / look / back", [0]),
            ("mark / look / back / look / mark / look", [3, 5]),
            ("look / mark / look / mark / back / look", [0, 2, 5]),
            ("mark / look / back / mark / look / look", [4, 5]),
            ("mark / look / back / mark / look / back", []),
            ("mark / look / back / look / mark / back", [3]),
            ("mark / look / mark / look / mark / look", [1, 3, 5]),
        ):
            with self.subTest(session=session):
                self.assertEqual(mix_of("a=1", f"{session} / commit").units(), [(0, 0, index) for index in units])
                self.assertEqual(mix_of("a=1", f"{session} / undo").units(), [])

    def test_a_back_undoes_nothing_of_other_transactions(self):
        mix = mix_of("a=1", "look / commit / mark / look / back / commit / look / commit", "look / commit")
        self.assertEqual(mix.units(), [(0, 0, 0), (0, 2, 0), (1, 0, 0)])

    def test_lists_are_new(self):
        mix = mix_of("a=1", "put k (1) / mark / look / commit", "look where name = j / commit")
        for method in (mix.names, mix.kinds, mix.transactions, mix.units):
            first = method()
            self.assertIsInstance(first, list)
            kept = list(first)
            first.append("more")
            first[0] = None
            self.assertEqual(method(), kept)
            first.clear()
            self.assertEqual(method(), kept)
        self.assertEqual(len(mix), 5)

    def test_len(self):
        self.assertEqual(len(mix_of("a=1", "mark / commit")), 1)
        self.assertEqual(len(mix_of("a=1", "mark / look / back / undo", "table / commit / look / look / commit")), 8)


class EqualTest(unittest.TestCase):
    TEXTS = [
        ("a=1", "look / commit"), ("a=2", "look / commit"), ("b=1", "look / commit"), ("a=1 b=1", "look / commit"),
        ("b=1 a=1", "look / commit"), ("a=1", "look / undo"), ("a=1", "begin repeatable / look / commit"),
        ("a=1", "look / look / commit"), ("a=1", "look / commit / look / commit"), ("a=1", "look / commit", "look / commit"),
        ("a=1", "look where true / commit"), ("a=1", "share / commit"), ("a=1", "look / mark / commit"),
        ("a=1", "share / commit", "look / commit"), ("a=1", "look / commit", "share / commit"),
    ]

    def test_written_alike(self):
        for text in self.TEXTS:
            self.assertIs(mix_of(*text) == mix_of(*text), True)
            self.assertIs(mix_of(*text) != mix_of(*text), False)
        self.assertEqual(mix_of("a=1", "look where a=1 / commit"), mix_of("a=1", "  look   where a  =  1  / commit"))

    def test_written_differently(self):
        for one, other in itertools.permutations(self.TEXTS, 2):
            self.assertIs(mix_of(*one) == mix_of(*other), False, (one, other))
            self.assertIs(mix_of(*one) != mix_of(*other), True, (one, other))

    def test_other_objects(self):
        mix = mix_of("a=1", "look / commit")
        for other in [*ANY, str(mix), mix.table, mix.sessions, mix.sessions[0][0], object(), Mix]:
            self.assertIs(mix == other, False)
            self.assertIs(other == mix, False)
            self.assertIs(mix != other, True)


if __name__ == "__main__":
    unittest.main()
