"""How a mix is written, how it is read, and which line is told if a text is no mix."""

import itertools
import random
import unittest

from newestrow.errors import BadMix, BadTransaction, TooMany
from newestrow.mixes import Mix, Transaction
from newestrow.statements import Statement
from newestrow.tables import Table
from building import ANY, mix_of, mix_text

TEXTS = [
    mix_text("a=2", "look / commit"),
    mix_text("a=1 b=2 c=3", "mark / undo", "look where a + b = c / commit / begin repeatable / share / undo"),
    mix_text("a=2", "begin repeatable / change a = a + 1 where a = 0 / commit", "mark / remove / back / table / commit"),
    mix_text("look=3 table=1", "put k ( 1 , 1 ) or change look = 2 where name = j / sole / commit / table / commit",
             "begin repeatable / mark / back / undo", "look where look = 1 / undo"),
    mix_text("session=1", "look / commit / look / commit / begin repeatable / look / commit / look / commit", "share / undo"),
    mix_text("begin=3", "put commit ( 0 ) / put undo ( 3 ) or nothing / commit"),
]


def outcome(text):
    """Return the error that reading a text raises, as (class, field), None if it is a mix."""
    try:
        Mix.read(text)
    except (BadMix, BadTransaction) as wrong:
        return wrong.__class__, wrong.at
    except TooMany as wrong:
        return TooMany, wrong.what
    return None


class WriteTest(unittest.TestCase):
    def test_str(self):
        table = Table([("a", 2), ("bc", 1)])
        one = Transaction([Statement(" look where a=1 ", table), Statement("mark", table)])
        two = Transaction([Statement("put k(1,1)or  nothing", table)], ends="undo", level="repeatable")
        three = Transaction([Statement("table", table)], ends="undo")
        four = Transaction([Statement("remove", table)], level="repeatable")
        self.assertEqual(str(Mix(table, [[one, two], [three], [four]])), "\n".join([
            "table a=2 bc=1",
            "session", "begin", "look where a = 1", "mark", "commit", "begin repeatable", "put k ( 1 , 1 ) or nothing", "undo",
            "session", "begin", "table", "undo",
            "session", "begin repeatable", "remove", "commit",
        ]))

    def test_str_of_what_was_read(self):
        for text in TEXTS:
            self.assertEqual(str(Mix.read(text)), text)


class ReadTest(unittest.TestCase):
    def test_what_was_read(self):
        mix = Mix.read("table b=3 a=1\nsession\nbegin\nlook\ncommit\nbegin repeatable\nmark\nchange a=b\nundo\nsession\nbegin\n"
                       "put k(0,1)\ntable\ncommit")
        self.assertEqual(mix.table, Table([("b", 3), ("a", 1)]))
        found = [[([str(statement) for statement in transaction.statements], transaction.ends, transaction.level)
                  for transaction in session] for session in mix.sessions]
        self.assertEqual(found, [
            [(["look"], "commit", "committed"), (["mark", "change a = b"], "undo", "repeatable")],
            [(["put k ( 0 , 1 )", "table"], "commit", "committed")],
        ])

    def test_equal_to_what_is_built(self):
        table = Table([("a", 2)])
        built = Mix.of(table, [Transaction([Statement("look", table)])], [Transaction([Statement("sole", table)], ends="undo")])
        self.assertEqual(Mix.read(str(built)), built)

    def test_other_spaces_in_statements(self):
        for text in TEXTS:
            lines = text.split("\n")
            plain = ("table", "session", "begin", "commit", "undo")
            for change in (
                lambda line: f"   {line} ",
                lambda line: line.replace(" ", "   "),
                lambda line: line.replace(" = ", "=").replace(" ( ", "(").replace(" , ", ",").replace(" )", " ) "),
            ):
                changed = [line if at == 0 or line.startswith(plain) and line != "table" else change(line)
                           for at, line in enumerate(lines)]
                self.assertEqual(Mix.read("\n".join(changed)), Mix.read(text))
                self.assertEqual(str(Mix.read("\n".join(changed))), text)

    def test_what_is_no_string(self):
        for thing in ANY:
            if not isinstance(thing, str):
                self.assertEqual(outcome(thing), (BadMix, -1), thing)


class LinesTest(unittest.TestCase):
    def check(self, at, *lines):
        text = "\n".join(lines)
        with self.subTest(text=text):
            self.assertEqual(outcome(text), (BadMix, at))

    def test_no_table(self):
        for line in ("", " ", "table", "table ", " table a=1", "table  a=1", "table a=1 ", "table a=1  b=1", "table a =1", "table a= 1",
                     "table a = 1", "table a", "table a=", "table =1", "table a=0", "table a=4", "table a=01", "table a=10", "table a=-1",
                     "table a=+1", "table a=x", "table a==1", "table a=1=1", "table a=1,b=1", "table a=1 a=1", "table a=1 b=1 a=2",
                     "table a=1 b=1 c=1 d=1", "table abcdefghi=1", "table A=1", "table a1=1", "table name=1", "table where=1",
                     "Table a=1", "tables a=1", "tablea=1", "a=1", "session", "begin", "look", "commit"):
            self.check(0, line)
            self.check(0, line, "session", "begin", "look", "commit")
            self.check(0, "", line, "session", "begin", "look", "commit")

    def test_columns_of_a_table(self):
        for line, columns in (("table a=1", [("a", 1)]), ("table a=3 b=2", [("a", 3), ("b", 2)]),
                              ("table table=2 look=1 session=3", [("table", 2), ("look", 1), ("session", 3)])):
            self.assertEqual(Mix.read(f"{line}\nsession\nbegin\nlook\ncommit").table, Table(columns))

    def test_where_a_session_must_be(self):
        for line in ("", "begin", "begin repeatable", "look", "commit", "undo", "sessions", "session ", " session", "Session", "table a=1"):
            self.check(1, "table a=1", line)
            self.check(1, "table a=1", line, "session", "begin", "look", "commit")

    def test_where_a_session_or_a_transaction_must_be(self):
        for line in ("", "look", "table", "commit", "undo", "begin ", " begin", "begin  repeatable", "begin repeatable ", "begin committed",
                     "beginrepeatable", "Begin", "repeatable", "session ", " session", "back", "mark", "table a=1"):
            self.check(2, "table a=1", "session", line)
            self.check(2, "table a=1", "session", line, "begin", "look", "commit")
            self.check(5, "table a=1", "session", "begin", "look", "commit", line)
            self.check(5, "table a=1", "session", "begin", "look", "undo", line, "session")
            self.check(3, "table a=1", "session", "session", line)

    def test_where_a_statement_or_an_end_must_be(self):
        for line in ("", " ", "session", "begin", "begin repeatable", "commit ", " commit", "undo ", " undo", "Commit", "commits", "lookk",
                     "look where b = 1", "change b = 1", "put k ( 2 )", "put k (1, 1)", "look where", "change a = 1 , a = 1", "table a=1",
                     "look where name = K", "mark mark"):
            self.check(3, "table a=1", "session", "begin", line)
            self.check(3, "table a=1", "session", "begin", line, "commit")
            self.check(4, "table a=1", "session", "begin repeatable", "look", line, "undo")
            self.check(7, "table a=1", "session", "session", "begin", "look", "commit", "begin", line)

    def test_the_text_ends_too_early(self):
        self.check(3, "table a=1", "session", "begin")
        self.check(3, "table a=1", "session", "begin repeatable")
        self.check(4, "table a=1", "session", "begin", "look")
        self.check(6, "table a=1", "session", "begin", "commit", "session", "begin")
        for text in TEXTS:
            lines = text.split("\n")
            for many in range(len(lines)):
                inside = many > 0 and lines[many - 1] not in ("commit", "undo", "session") and many > 1
                if inside or many == 0:
                    self.check(many, *lines[:many])

    def test_a_line_feed_at_the_end(self):
        for text in TEXTS:
            lines = text.split("\n")
            self.check(len(lines), *lines, "")
        self.check(4, "table a=1", "session", "begin", "look", "")

    def test_an_empty_line(self):
        for text in TEXTS:
            lines = text.split("\n")
            for at in range(len(lines) + 1):
                self.check(at, *lines[:at], "", *lines[at:])

    def test_the_first_wrong_line(self):
        self.check(1, "table a=1", "look", "sessions", "begin")
        self.check(2, "table a=1", "session", "commit", "", "look")
        self.check(4, "table a=1", "session", "begin", "look", "lok", "commits")


class ChangedTextsTest(unittest.TestCase):
    """Texts with lines left out, doubled, exchanged, put in or cut, compared with an oracle that knows which line may follow."""

    LINES = ["session", "begin", "begin repeatable", "look", "table", "commit", "undo", "", "look where zz = 1"]

    def may_stand(self, before, line, table):
        """Tell whether a line may stand behind a line that is right there; before is None for the first."""
        if before is None:
            return line == "table " + " ".join(f"{name}={top}" for name, top in zip(table.columns, table.tops))
        if before.startswith("table ") and "=" in before:
            return line == "session"
        if before == "session" or before in ("commit", "undo"):
            return line in ("session", "begin", "begin repeatable")
        if line in ("commit", "undo"):
            return True
        try:
            Statement(line, table)
        except ValueError:
            return False
        return True

    def wanted(self, lines, table):
        for at, line in enumerate(lines):
            if not self.may_stand(lines[at - 1] if at else None, line, table):
                return at
        if lines[-1] in ("commit", "undo", "session") or len(lines) == 1:
            return None
        return len(lines)

    def check(self, lines, table):
        wanted = self.wanted(lines, table)
        found = outcome("\n".join(lines))
        if wanted is None:
            self.assertEqual(found, outcome_of_parts(lines, table), lines)
        else:
            self.assertEqual(found, (BadMix, wanted), lines)

    def test_changed_texts(self):
        chance = random.Random(12)
        for text in TEXTS:
            lines = text.split("\n")
            table = Mix.read(text).table
            for at in range(len(lines)):
                self.check(lines[:at] + lines[at + 1:] or [""], table)
                self.check(lines[:at] + [lines[at]] + lines[at:], table)
                self.check(lines[:at] or [""], table)
                for line in self.LINES:
                    self.check(lines[:at] + [line] + lines[at:], table)
                    self.check(lines[:at] + [line] + lines[at + 1:], table)
            for one, other in itertools.combinations(range(len(lines)), 2):
                changed = list(lines)
                changed[one], changed[other] = changed[other], changed[one]
                self.check(changed, table)
            for _ in range(100):
                changed = list(lines)
                for _ in range(3):
                    changed.insert(chance.randrange(1, len(changed) + 1), chance.choice(self.LINES))
                self.check(changed, table)


def outcome_of_parts(lines, table):
    """Return what building a mix from lines that stand right raises, or None."""
    sessions = []
    try:
        for line in lines[1:]:
            if line == "session":
                sessions.append([])
            elif line.startswith("begin"):
                statements, level = [], "repeatable" if line != "begin" else "committed"
            elif line in ("commit", "undo"):
                sessions[-1].append(Transaction(statements, ends=line, level=level))
            else:
                statements.append(Statement(line, table))
        Mix(table, sessions)
    except (BadMix, BadTransaction) as wrong:
        return wrong.__class__, wrong.at
    except TooMany as wrong:
        return TooMany, wrong.what
    return None


class LaterErrorsTest(unittest.TestCase):
    def check(self, wanted, *lines):
        text = "\n".join(["table a=1", *lines])
        with self.subTest(text=text):
            self.assertEqual(outcome(text), wanted)

    def test_of_mixes(self):
        self.check((BadMix, -1))
        self.check((BadMix, 0), "session")
        self.check((BadMix, 1), "session", "begin", "look", "commit", "session", "session")
        self.check((TooMany, "sessions"), *["session", "begin", "look", "commit"] * 5)
        self.check((TooMany, "transactions"), "session", *["begin", "look", "commit"] * 5)
        self.check((TooMany, "events"), *["session", "begin", "look", "look", "look", "commit"] * 4)
        self.check((TooMany, "names"), "session", "begin", "put i (1)", "put j (1)", "put k (1)", "commit")

    def test_of_transactions(self):
        self.check((BadTransaction, -1), "session", "begin", "commit")
        self.check((BadTransaction, -1), "session", "begin", "look", "commit", "begin repeatable", "undo")
        self.check((BadTransaction, 1), "session", "begin", "look", "back", "commit")
        self.check((TooMany, "statements"), "session", "begin", *["mark"] * 7, "commit")

    def test_the_first_transaction(self):
        self.check((BadTransaction, 0), "session", "begin", "back", "commit", "begin", "commit", "session")
        self.check((BadTransaction, -1), "session", "begin", "commit", "begin", "back", "commit", "session")
        self.check((TooMany, "statements"), "session", "begin", *["back"] * 7, "commit", "begin", "back", "commit")
        self.check((BadTransaction, 2), "session", "begin", "look", "look", "back", "commit", "session", "begin", *["look"] * 7, "undo")

    def test_transactions_before_the_mix(self):
        self.check((BadTransaction, -1), "session", "session", "begin", "commit")
        self.check((BadTransaction, 0), *["session", "begin", "look", "commit"] * 5, "session", "begin", "back", "commit")

    def test_lines_before_transactions(self):
        self.check((BadMix, 4), "session", "begin", "commit", "commit")
        self.check((BadMix, 5), "session", "begin", "back", "commit", "look")
        self.check((BadMix, 11), "session", "begin", *["look"] * 7, "commit", "end")
        self.check((BadMix, 6), "session", "begin", "commit", "session", "begin")


class HelperTest(unittest.TestCase):
    def test_mix_of(self):
        self.assertEqual(str(mix_of("a=1", "look / commit / begin repeatable / share / undo / table / commit")),
                         "table a=1\nsession\nbegin\nlook\ncommit\nbegin repeatable\nshare\nundo\nbegin\ntable\ncommit")


if __name__ == "__main__":
    unittest.main()
