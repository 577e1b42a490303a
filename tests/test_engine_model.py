"""Random calls of the engine, compared with a model of it."""

import random
import unittest

from newestrow.engine import Database
from newestrow.errors import Failed, NoTarget, Ring, Unfinished, Waits
from newestrow.statements import Statement
from newestrow.tables import Table
from building import ANY
from engine_model import Model

TABLE = Table([("a", 2)])
TEXTS = [
    "look", "look where a > 0", "share", "share where a = 0", "share where name = k", "sole where a = 1", "sole where name = j", "sole",
    "change a = a + 1 where a < 2", "change a = 0 where a = 2", "change a = 1 where name = k", "change a = a", "remove where a = 1",
    "remove where name = k", "put k (0)", "put k (1) or nothing", "put j (2) or change a = 1", "put k (0) or change a = a + 1 where a < 2",
    "mark", "mark", "back", "table",
]
CALLS = ["start", "do", "do", "visit", "visit", "visit", "finish", "finish", "commit", "undo"]


def outcome(call, *arguments):
    """Return what a call returns, or the class and the fields of what it raises."""
    try:
        return "returns", call(*arguments)
    except Exception as error:
        return error.__class__.__name__, vars(error)


class ModelTest(unittest.TestCase):
    def setUp(self):
        self.counts = {}

    def random_rows(self, chance):
        rows = [(None, (chance.randrange(3),)) for _ in range(chance.randrange(3))]
        rows += [(name, (chance.randrange(3),)) for name in ("k", "j") if chance.random() < 0.6]
        chance.shuffle(rows)
        return rows

    def compare(self, model, session, modelled, name, *arguments):
        found, wanted = outcome(getattr(session, name), *arguments), outcome(getattr(modelled, name), *arguments)
        self.counts[name, found[0]] = self.counts.get((name, found[0]), 0) + 1
        if found[0] == wanted[0] == "Ring":
            ring = found[1]["sessions"]
            self.assertIsInstance(ring, tuple)
            self.assertEqual(ring[0], modelled.number)
            self.assertEqual(len(ring), wanted[1]["sessions"])
            self.assertTrue(model.is_ring(ring))
            self.counts["ring", len(ring)] = self.counts.get(("ring", len(ring)), 0) + 1
            modelled.end()
        else:
            self.assertEqual(found, wanted, name)

    def random_call(self, chance, modelled):
        name = chance.choice(CALLS)
        if modelled.current is None and chance.random() < 0.5:
            name = chance.choice(["do", "start"])
        if modelled.current and chance.random() < 0.6:
            name = "visit" if modelled.current["left"] else "finish"
        if name in ("commit", "undo") and chance.random() < 0.5:
            name = "finish"
        if name in ("start", "do"):
            return name, Statement(chance.choice(TEXTS), TABLE)
        if name == "visit":
            left = sorted(modelled.current["left"]) if modelled.current else []
            return name, chance.choice(left) if left and chance.random() < 0.95 else chance.choice([*ANY, "k", "j", 2, True, False, (0,)])
        return (name,)

    def run_calls(self, chance, many_sessions, calls):
        rows = self.random_rows(chance)
        database, model = Database(TABLE, rows), Model(rows)
        sessions = []
        for _ in range(calls):
            opened = [pair for pair in sessions if not pair[1].over]
            if len(opened) < many_sessions:
                level = chance.choice(["committed", "committed", "repeatable"])
                sessions.append((database.begin(level=level), model.begin(level)))
                self.assertEqual(sessions[-1][0].number, len(sessions) - 1)
                self.assertEqual(sessions[-1][0].level, level)
                continue
            session, modelled = chance.choice(opened if chance.random() < 0.97 else sessions)
            self.compare(model, session, modelled, *self.random_call(chance, modelled))
            self.assertEqual(database.committed(), model.rows())
            for one, other in sessions:
                self.assertIs(one.is_open, not other.over)

    def test_random_calls(self):
        chance = random.Random(29)
        for _ in range(2000):
            self.run_calls(chance, chance.choice([1, 2, 2, 3, 3, 4]), 45)
        for name, errors in (("start", [Waits, Ring, "Busy", "BadStatement", "Ended"]), ("visit", [Waits, Ring, Failed, NoTarget, "Ended"]),
                             ("finish", [NoTarget, Unfinished, "Ended"]), ("commit", ["Busy", "Ended"]), ("undo", ["Ended"]),
                             ("do", [Waits, Ring, Failed, "Busy", "Ended"])):
            for error in errors:
                self.assertGreater(self.counts.get((name, getattr(error, "__name__", error)), 0), 1, (name, error))
            self.assertGreater(self.counts[name, "returns"], 100)
        self.assertGreater(self.counts["ring", 2], 50)
        self.assertGreater(self.counts["ring", 3], 2)


if __name__ == "__main__":
    unittest.main()
