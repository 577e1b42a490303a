"""Ways of many rows through many weavings, compared with an oracle that asks each point of the document by itself."""

import random
import unittest

from newestrow.errors import Bars, NotPossible
from newestrow.ways import way
from newestrow.weavings import Weavings, check_possible
from building import mix_of

NOTHING = "nothing"
ROW_WORDS = ("look", "share", "sole", "change", "remove", "put")


class Oracle:
    """What points 14 and 18 to 23 say of one row; versions are None or (life, values).

    Nothing is done in the order of time here: each question is answered by what the point says,
    asking the other points, and the answers for statements are kept.
    """

    def __init__(self, mix, weaving, kind):
        self.mix = mix
        self.name, values = kind
        self.initial = None if values is None else ("initial", values)
        self.kept = {}
        self.position = {}
        left = [
            [(number, at, index) for at, transaction in enumerate(session)
             for index in [*range(len(transaction.statements)), -1]
             if index == -1 or transaction.statements[index].word != "mark"]
            for number, session in enumerate(mix.sessions)
        ]
        for position, number in enumerate(weaving):
            self.position[left[number].pop(0)] = position
        self.statements = [event for event in self.position if event[2] != -1 and self.word(event) in ROW_WORDS]

    def transaction(self, event):
        return self.mix.sessions[event[0]][event[1]]

    def word(self, event):
        return self.transaction(event).statements[event[2]].word

    def backs(self, event):
        """The backs that undo a statement."""
        words = [statement.word for statement in self.transaction(event).statements]
        return [
            (event[0], event[1], at) for at in range(event[2] + 1, len(words))
            if words[at] == "back" and max(m for m in range(at) if words[m] == "mark") < event[2]
        ]

    def is_undone(self, event):
        return self.transaction(event).ends == "undo" or bool(self.backs(event))

    def release(self, event):
        return min([self.position[back] for back in self.backs(event)] or [self.position[(*event[:2], -1)]])

    def until(self, event):
        return min(position for other, position in self.position.items()
                   if other[0] == event[0] and position > self.position[event])

    def snapshot(self, event):
        if self.transaction(event).level == "committed":
            return self.position[event]
        return min(self.position[other] for other in self.statements if other[:2] == event[:2])

    def last_write(self, statements):
        """The last of what these statements wrote, or NOTHING."""
        for event in sorted(statements, key=self.position.get, reverse=True):
            if self.effect(event)["write"] != NOTHING:
                return self.effect(event)["write"]
        return NOTHING

    def own(self, event):
        """The own version that a statement finds."""
        now = self.position[event]
        return self.last_write([other for other in self.statements if other[:2] == event[:2] and self.position[other] < now
                                and not any(self.position[back] < now for back in self.backs(other))])

    def written(self, number, at):
        """What the commit of a transaction writes, or NOTHING."""
        return self.last_write([other for other in self.statements if other[:2] == (number, at) and not self.is_undone(other)])

    def commits(self, before):
        """The commits before a position that wrote the row, as (position, version)."""
        ends = sorted((self.position[(*pair, -1)], pair) for pair in self.mix.transactions()
                      if self.mix.sessions[pair[0]][pair[1]].ends == "commit")
        found = [(position, self.written(*pair)) for position, pair in ends if position < before]
        return [(position, version) for position, version in found if version != NOTHING]

    def committed(self, before):
        return self.commits(before)[-1][1] if self.commits(before) else self.initial

    def effect(self, event):
        if event not in self.kept:
            self.kept[event] = self.found_effect(event)
        return self.kept[event]

    def found_effect(self, event):
        statement = self.transaction(event).statements[event[2]]
        effect = {"write": NOTHING, "returned": None, "acts": False, "bar": None}
        own = self.own(event)
        seen = own if own != NOTHING else self.committed(self.snapshot(event))
        if statement.word == "look":
            if seen is not None and statement.condition(seen[1], self.name):
                effect["returned"] = seen[1]
            return effect
        if statement.word == "put":
            if statement.name != self.name:
                return effect
        elif seen is None or not statement.condition(seen[1], self.name):
            return effect
        between = [position for position, _ in self.commits(self.until(event)) if position > self.snapshot(event)]
        current = own if own != NOTHING else self.committed(self.until(event))
        if self.transaction(event).level == "repeatable" and own == NOTHING and between:
            effect["bar"] = between[-1]
        if statement.word == "put":
            effect["acts"] = True
            if current is None:
                effect["write"] = (event, statement.inserted)
                effect["returned"] = statement.inserted
            elif statement.condition is not None and statement.condition(current[1], self.name):
                self.write_new(statement, current, effect)
            return effect
        if current is None or current[0] != seen[0]:
            return effect
        effect["acts"] = True
        if own == NOTHING and between and not statement.condition(current[1], self.name):
            return effect
        effect["returned"] = current[1]
        if statement.word == "change":
            self.write_new(statement, current, effect)
        elif statement.word == "remove":
            effect["write"] = None
        return effect

    def write_new(self, statement, current, effect):
        effect["returned"] = statement.new_values(current[1])
        effect["write"] = (current[0], effect["returned"])

    def mode(self, event):
        return "share" if self.word(event) == "share" else "sole"

    def bars(self):
        """All pairs (second, first) that bar."""
        found = [(self.position[event], self.effect(event)["bar"]) for event in self.statements
                 if self.effect(event)["bar"] is not None]
        acts = [event for event in self.statements if self.effect(event)["acts"]]
        for one in acts:
            for other in acts:
                differ = one[:2] != other[:2]
                conflict = not self.mode(one) == self.mode(other) == "share"
                if differ and conflict and self.until(other) < self.release(one) < self.release(other):
                    found.append((self.position[other], self.position[one]))
        return found

    def outcome(self):
        """What way tells: ("bars", first, second) or what the parts of a Way are."""
        if self.bars():
            second, first = sorted(self.bars())[0]
            return "bars", first, second
        everything = len(self.position) + 1
        values = [(position, version and version[1]) for position, version in self.commits(everything)]
        end = self.committed(everything)
        returned = {event: self.effect(event)["returned"] for event in self.statements if not self.is_undone(event)}
        acts = sorted((self.position[event], self.mode(event), self.release(event)) for event in self.statements
                      if self.effect(event)["acts"])
        return end and end[1], returned, tuple(values), tuple(acts)


def outcome(mix, weaving, kind):
    """Return what way tells in the same form."""
    try:
        found = way(mix, weaving, kind)
    except Bars as wrong:
        return "bars", wrong.first, wrong.second
    return found.end, found.returned, found.versions, found.acts


CONDITIONS = ["", "", " where a = 0", " where a = 1", " where a < 2", " where name = k", " where name != k and a > 0"]
SETS = ["a = 1", "a = a + 1", "a = a - 1", "a = 0", "a = a"]


def random_statement(chance, marked):
    word = chance.choice(["look", "share", "sole", "remove", "change", "change", "put", "put", "mark", "back", "table"])
    if word == "back" and not marked:
        word = "mark"
    if word == "table" and chance.random() < 0.7:
        word = "change"
    if word in ("mark", "back", "table"):
        return word
    where = chance.choice(CONDITIONS)
    if word == "change":
        return f"change {chance.choice(SETS)}{where}"
    if word == "put":
        more = chance.choice(["", " or nothing", f" or change {chance.choice(SETS)}{where}"])
        return f"put k ({chance.randrange(3)}){more}"
    return word + where


def random_session(chance, events):
    """Return a session with about so many events."""
    lines = []
    while events > 1:
        if chance.random() < 0.4:
            lines.append("begin repeatable")
        marked = False
        many = min(chance.randrange(max(1, events // 3), 6), events - 1)
        for _ in range(many):
            line = random_statement(chance, marked)
            marked = marked or line == "mark"
            lines.append(line)
        lines.append(chance.choice(["commit", "commit", "commit", "undo"]))
        events -= many + 1
    return " / ".join(lines)


class OracleTest(unittest.TestCase):
    def compare(self, mix, weavings):
        """Compare in all these weavings; return how many rows bar and how many do not."""
        counts = {True: 0, False: 0}
        for weaving in weavings:
            try:
                check_possible(mix, weaving)
            except NotPossible:
                continue
            for kind in mix.kinds():
                wanted = Oracle(mix, weaving, kind).outcome()
                self.assertEqual(outcome(mix, weaving, kind), wanted, (str(mix), weaving, kind))
                counts[wanted[0] == "bars"] += 1
        return counts

    def test_all_weavings(self):
        for sessions in (
            ("remove where name = k / put k (1) / commit", "change a = a + 1 where a < 2 / commit"),
            ("begin repeatable / look / change a = 1 / commit", "put k (0) or change a = a + 1 / commit / remove / undo"),
            ("change a = 1 where a = 0 / commit", "change a = 2 where a = 1 / commit", "remove where a = 1 / commit"),
            ("put k (1) / commit", "begin repeatable / put k (2) or change a = 0 / commit", "sole where name = k / undo"),
            ("mark / share / back / change a = 2 / commit", "begin repeatable / share / share / commit"),
        ):
            mix = mix_of("a=2", *sessions)
            self.compare(mix, Weavings(mix).each())

    def test_random_mixes(self):
        chance = random.Random(24)
        total = {True: 0, False: 0}
        for _ in range(220):
            many = chance.choice([1, 2, 2, 3, 3, 3, 4])
            mix = mix_of("a=2", *[random_session(chance, 12 // many) for _ in range(many)])
            events = [number for number, session in enumerate(mix.sessions) for transaction in session for _ in range(len(transaction))]
            weavings = []
            for _ in range(10):
                chance.shuffle(events)
                weavings.append(tuple(events))
            for bars, count in self.compare(mix, weavings).items():
                total[bars] += count
        self.assertGreater(total[True], 1000)
        self.assertGreater(total[False], 3000)


if __name__ == "__main__":
    unittest.main()
