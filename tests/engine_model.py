"""A model of the engine that keeps records of all that happened and looks everything up in them."""

import itertools

from newestrow.errors import BadStatement, Busy, Ended, Failed, NoTarget, Ring, Unfinished, Waits

HOLDING = ("share", "sole", "change", "remove", "put")


class Model:
    """A database. A place is ("name", name) or ("tag", tag); commits are dicts from places to (tag, values) or None."""

    def __init__(self, rows):
        self.commits = [{place_of(name, tag): (tag, values) for tag, (name, values) in enumerate(rows)}]
        self.tags = itertools.count(len(rows))
        self.sessions = []

    def begin(self, level):
        self.sessions.append(ModelSession(self, len(self.sessions), level))
        return self.sessions[-1]

    def written(self, place, since):
        """The versions that commits behind the first so many wrote."""
        return [commit[place] for commit in self.commits[since:] if place in commit]

    def committed(self, place, many):
        """The version behind so many commits."""
        versions = [commit[place] for commit in self.commits[:many] if place in commit]
        return versions[-1] if versions else None

    def places(self):
        return {place for commit in self.commits for place in commit}

    def rows(self):
        found = [(place, self.committed(place, len(self.commits))) for place in self.places()]
        return sorted((version[0], name_of(place), version[1]) for place, version in found if version)

    def shortest_ring(self, number):
        """The number of sessions in a shortest ring of waits through a session, None if there is none."""
        others = [session.number for session in self.sessions if not session.over and session.number != number]
        for many in range(2, len(others) + 2):
            for ring in itertools.permutations(others, many - 1):
                if self.is_ring((number, *ring)):
                    return many
        return None

    def is_ring(self, ring):
        return len(set(ring)) == len(ring) > 1 and all(
            other in self.sessions[one].waits_for() for one, other in zip(ring, [*ring[1:], ring[0]]))


def place_of(name, tag):
    return ("tag", tag) if name is None else ("name", name)


def name_of(place):
    return place[1] if place[0] == "name" else None


class ModelSession:
    """A transaction; its records are dicts, one for each statement, that are only ever added and marked as undone."""

    def __init__(self, model, number, level):
        self.model, self.number, self.level = model, number, level
        self.over = False
        self.records = []
        self.current = None
        self.snapshot = None
        self.pending = None

    def own(self, place):
        """A list with the own version, or none."""
        return [record["writes"][place] for record in self.records if not record["undone"] and place in record["writes"]][-1:]

    def is_busy(self):
        return not self.over and any(record["word"] in HOLDING for record in self.records)

    def owns_table(self):
        return not self.over and any(record["word"] == "table" for record in self.records)

    def holds(self, place, mode):
        """Whether another session cannot hold the row in this mode."""
        return not self.over and any(
            not record["undone"] and place in record["acts"] and "sole" in (mode, record["acts"][place]) for record in self.records)

    def in_way(self, pending):
        others = [session for session in self.model.sessions if session != self]
        if pending is None:
            return ()
        if pending[0] == "start":
            if pending[1] == "table":
                return tuple(other.number for other in others if other.is_busy() or other.owns_table())
            return tuple(other.number for other in others if other.owns_table() and pending[1] in HOLDING)
        if self.is_gone(pending[1]):
            return ()
        place, mode = self.current["left"][pending[1]], "share" if self.current["word"] == "share" else "sole"
        return tuple(other.number for other in others if other.holds(place, mode))

    def waits_for(self):
        return () if self.over else self.in_way(self.pending)

    def is_gone(self, target):
        """Whether a commit since the snapshot has removed the row of a tag."""
        if isinstance(target, str):
            return False
        versions = self.model.written(self.current["left"][target], self.snapshot)
        return any(version is None or version[0] != target for version in versions)

    def ask(self, pending):
        holders = self.in_way(pending)
        if holders:
            self.pending = pending
            many = self.model.shortest_ring(self.number)
            if many is not None:
                raise Ring(many)
            raise Waits(holders)

    def end(self):
        self.over = True

    def check_open(self):
        if self.over:
            raise Ended()

    def start(self, statement):
        self.check_open()
        word = statement.word
        if self.current:
            raise Busy()
        if word == "back" and not any(record["word"] == "mark" for record in self.records):
            raise BadStatement(0)
        self.ask(("start", word))
        self.pending = None
        record = {"word": word, "undone": False, "acts": {}, "writes": {}}
        self.records.append(record)
        if word == "back":
            last = max(at for at, other in enumerate(self.records) if other["word"] == "mark")
            for other in self.records[last:]:
                other["undone"] = True
        if word not in HOLDING and word != "look":
            return []
        if self.level == "committed" or self.snapshot is None:
            self.snapshot = len(self.model.commits)
        self.current = {"word": word, "statement": statement, "left": {}, "rows": [], "record": record}
        if word == "put":
            self.current["left"] = {statement.name: ("name", statement.name)}
            return [statement.name]
        mine = {place for other in self.records for place in other["writes"]}
        for place in sorted(self.model.places() | mine):
            version = (self.own(place) or [self.model.committed(place, self.snapshot)])[0]
            if version and statement.condition(version[1], name_of(place)):
                if word == "look":
                    self.current["rows"].append((version[0], name_of(place), version[1]))
                else:
                    self.current["left"][version[0]] = place
        return sorted(self.current["left"])

    def visit(self, target):
        self.check_open()
        left = self.current["left"] if self.current else {}
        if isinstance(target, bool) or not isinstance(target, (int, str)) or target not in left:
            raise NoTarget(target)
        place = left[target]
        written = self.model.written(place, self.snapshot) and not self.own(place)
        if self.is_gone(target):
            if self.level == "repeatable":
                self.end()
                raise Failed(target)
            del left[target]
            self.pending = None
            return False
        self.ask(("visit", target))
        if written and self.level == "repeatable":
            self.end()
            raise Failed(target)
        self.act(place, written)
        del left[target]
        self.pending = None
        return True

    def act(self, place, written):
        statement, record, rows = self.current["statement"], self.current["record"], self.current["rows"]
        version = (self.own(place) or [self.model.committed(place, len(self.model.commits))])[0]
        name = name_of(place)
        record["acts"][place] = "share" if statement.word == "share" else "sole"
        if version is None:
            version = (next(self.model.tags), statement.inserted)
            record["writes"][place] = version
        elif statement.word == "put":
            if statement.condition is None or not statement.condition(version[1], name):
                return
            version = (version[0], statement.new_values(version[1]))
            record["writes"][place] = version
        elif written and not statement.condition(version[1], name):
            return
        elif statement.word == "change":
            version = (version[0], statement.new_values(version[1]))
            record["writes"][place] = version
        elif statement.word == "remove":
            record["writes"][place] = None
        rows.append((version[0], name, version[1]))

    def finish(self):
        self.check_open()
        if not self.current:
            raise NoTarget(None)
        if self.current["left"]:
            raise Unfinished(tuple(sorted(self.current["left"])))
        rows, self.current, self.pending = self.current["rows"], None, None
        return sorted(rows)

    def do(self, statement):
        for target in self.start(statement):
            self.visit(target)
        return self.finish() if self.current else []

    def commit(self):
        self.check_open()
        if self.current:
            raise Busy()
        places = {place for record in self.records for place in record["writes"] if not record["undone"]}
        self.model.commits.append({place: self.own(place)[0] for place in places})
        self.end()

    def undo(self):
        self.check_open()
        self.end()
