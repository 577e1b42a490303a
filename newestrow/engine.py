"""The engine: databases with versions of rows, and sessions that run one transaction each."""

from newestrow.databases import wrong_entry
from newestrow.effects import concerns, effect_of, is_about_rows
from newestrow.errors import (
    BadDatabase, BadStatement, Busy, Ended, Failed, NoTarget, Ring, Unfinished, Waits,
)
from newestrow.holds import Holds, Wish
from newestrow.shapes import is_integer
from newestrow.stores import Store, name_of
from newestrow.weavings import hold_of


class Work:
    """A statement that is under way: the places of the targets that are left, and the rows that it returns so far."""

    def __init__(self, statement):
        self.statement = statement
        self.left = {}
        self.found = []

    def note(self, place, version):
        """Note a row that the statement sees and that it is about."""
        tag, values = version
        if self.statement.word == "look":
            self.found.append((tag, name_of(place), values))
        else:
            self.left[tag] = place

    def has_target(self, thing):
        """Tell whether any value is a target that is left."""
        return (is_integer(thing) or isinstance(thing, str)) and thing in self.left


class Session:
    """One transaction on a database, statement by statement."""

    def __init__(self, number, level, store, holds):
        self.number = number
        self.level = level
        self._store = store
        self._holds = holds
        self._over = False
        self._work = None
        # What the statements wrote so far, as (place, version); no `back` has undone it.
        self._writes = []
        # How many writes and acts there were at the last `mark`.
        self._mark = None
        self._snapshot = None
        holds.begin(number)

    @property
    def is_open(self):
        """Whether the transaction is not over."""
        return not self._over

    def start(self, statement):
        """Start a statement and return its targets, ascending."""
        self._check_open()
        if self._work is not None:
            raise Busy()
        if statement.word == "back" and self._mark is None:
            raise BadStatement(0)
        hold = hold_of(statement)
        self._ask(Wish(hold=hold))
        self._holds.settle(self.number)
        self._holds.take_table(self.number, hold)
        if statement.word == "mark":
            self._mark = (len(self._writes), self._holds.many_acts(self.number))
        elif statement.word == "back":
            self._go_back()
        elif is_about_rows(statement):
            self._work = self._begun(statement)
            return sorted(list(self._work.left))
        return []

    def visit(self, target):
        """Let the statement go to one of its targets; tell whether it acted there."""
        self._check_open()
        work = self._work
        if work is None or not work.has_target(target):
            raise NoTarget(target)
        place = work.left[target]
        tag = target if is_integer(target) else None
        own = self._own_versions()
        gone = tag is not None and place not in own and self._store.is_gone(place, tag)
        if gone:
            self._check_newest(place, target)
        else:
            self._ask(Wish(place=place, mode=work.statement.mode, tag=tag))
            if place not in own:
                self._check_newest(place, target)
            self._act(place)
        del work.left[target]
        self._holds.settle(self.number)
        return not gone

    def finish(self):
        """End the statement that is under way and return its rows, ascending."""
        self._check_open()
        work = self._work
        if work is None:
            raise NoTarget(None)
        if work.left:
            raise Unfinished(tuple(sorted(list(work.left))))
        self._work = None
        self._holds.settle(self.number)
        return sorted(work.found)

    def do(self, statement):
        """Start a statement, let it go to all its targets, ascending, and finish it."""
        targets = self.start(statement)
        for target in targets:
            self.visit(target)
        return self.finish() if is_about_rows(statement) else []

    def commit(self):
        """End the transaction; what it wrote is committed."""
        self._check_open()
        if self._work is not None:
            raise Busy()
        self._store.write(self._own_versions())
        self._end()

    def undo(self):
        """End the transaction as if it had not been."""
        self._check_open()
        self._end()

    def _check_open(self):
        if self._over:
            raise Ended()

    def _check_newest(self, place, target):
        """Fail if the transaction is repeatable and a commit has written the place since the snapshot."""
        if self.level == "repeatable" and self._store.is_written_since(place, self._snapshot):
            self._end()
            raise Failed(target)

    def _ask(self, wish):
        """Raise Waits if others stand in the way of a wish, or end and raise Ring if they wait for this session."""
        holders = self._holds.in_way(self.number, wish)
        if not holders:
            return
        ring = self._holds.wait(self.number, wish)
        if ring is not None:
            self._end()
            raise Ring(ring)
        raise Waits(holders)

    def _own_versions(self):
        """Return a dict from each place that the transaction has written to its own version."""
        return {place: version for place, version in self._writes}

    def _begun(self, statement):
        """Return a statement that begins now with what it sees, and take the snapshot for it if it needs one."""
        if self._snapshot is None or self.level == "committed":
            self._snapshot = self._store.moment
        work = Work(statement)
        if statement.word == "put":
            work.left[statement.name] = statement.name
            return work
        seen = self._store.seen_at(self._snapshot)
        own = self._own_versions()
        for place in own:
            seen[place] = own[place]
        for place, version in seen.items():
            if version is not None and concerns(statement, name_of(place), version[1]):
                work.note(place, version)
        return work

    def _act(self, place):
        """Hold the row in a place and let the statement do its work on it, if it still is about it."""
        statement = self._work.statement
        self._holds.take_row(self.number, place, statement.mode)
        own = self._own_versions()
        version = own[place] if place in own else self._store.newest(place)
        tag, values = (None, None) if version is None else version
        # This can differ from what the statement saw only if a commit has written the place since.
        if not concerns(statement, name_of(place), values):
            return
        writes, fresh, returned = effect_of(statement, name_of(place), values)
        if tag is None:
            tag = self._store.new_tag()
        if writes:
            self._writes.append((place, None if fresh is None else (tag, fresh)))
        if returned is not None:
            self._work.found.append((tag, name_of(place), returned))

    def _go_back(self):
        """Undo what was done since the last `mark`."""
        writes, acts = self._mark
        self._writes = self._writes[:writes]
        self._holds.let_go(self.number, acts)

    def _end(self):
        self._over = True
        self._work = None
        self._writes = []
        self._holds.leave_all(self.number)


class Database:
    """Rows with tags, for transactions that run at the same time."""

    def __init__(self, table, rows):
        wrong = wrong_entry(rows, table)
        if wrong is not None:
            raise BadDatabase(wrong)
        self._store = Store(rows)
        self._holds = Holds(self._store)
        self._many = 0

    def committed(self):
        """Return the committed rows as (tag, name, values), ascending."""
        return self._store.committed_rows()

    def begin(self, *, level="committed"):
        """Return a new session."""
        self._many += 1
        return Session(self._many - 1, level, self._store, self._holds)
