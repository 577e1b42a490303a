"""Transactions, and mixes of them: what runs at the same time over one table."""

from newestrow.errors import BadMix, BadStatement, BadTable, BadTransaction, TooMany
from newestrow.statements import Statement
from newestrow.tables import Table

END = -1
ENDS = ("commit", "undo")
LEVELS = ("committed", "repeatable")
BEGINS = {"begin": "committed", "begin repeatable": "repeatable"}
TOPS = {"1": 1, "2": 2, "3": 3}


def lone_back(statements):
    """Return the index of the first `back` without a `mark` before it, or None."""
    for at, statement in enumerate(statements):
        if statement.word == "mark":
            return None
        if statement.word == "back":
            return at
    return None


class Transaction:
    """Statements that are executed one after another, and an end.

    Its events are denoted by the indexes of their statements, and the end by END.
    """

    def __init__(self, statements, *, ends="commit", level="committed"):
        if len(statements) > 6:
            raise TooMany("statements")
        if len(statements) == 0 or ends not in ENDS or level not in LEVELS:
            raise BadTransaction(-1)
        lone = lone_back(statements)
        if lone is not None:
            raise BadTransaction(lone)
        self.statements = tuple(statements)
        self.ends = ends
        self.level = level
        self._events = [at for at, statement in enumerate(statements) if statement.word != "mark"] + [END]

    def events(self):
        """Return the events in their order."""
        return list(self._events)

    def event_after(self, event):
        """Return the event behind one that is not the end."""
        return self._events[self._events.index(event) + 1]

    def release_of(self, index):
        """Return the event that releases a statement: the first `back` that undoes it, or the end."""
        mark = -1
        for at, statement in enumerate(self.statements):
            if statement.word == "mark":
                mark = at
            if statement.word == "back" and mark < index < at:
                return at
        return END

    def is_unit(self, index):
        """Tell whether a statement is about rows and is not undone."""
        if self.statements[index].word in ("mark", "back", "table"):
            return False
        return self.ends == "commit" and self.release_of(index) == END

    def __len__(self):
        return len(self._events)


def is_session(session, table):
    """Tell whether a session has transactions, and all their statements are on this table."""
    tables = [statement.table for transaction in session for statement in transaction.statements]
    return len(session) > 0 and all([other == table for other in tables])


def kinds_of(table, names):
    """Return what a row can be at the beginning, and for each of these names that it can be missing."""
    values = table.all_values()
    return [(None, row) for row in values] + [(name, row) for name in names for row in [None, *values]]


def session_events(number, session):
    """Return the events of a session in order as (session, transaction, event)."""
    return [(number, at, event) for at, transaction in enumerate(session) for event in transaction.events()]


def transaction_lines(transaction):
    """Return the lines in which a transaction is written."""
    begin = "begin" if transaction.level == "committed" else "begin repeatable"
    return [begin] + [str(statement) for statement in transaction.statements] + [transaction.ends]


def mix_lines(table, sessions):
    """Return the lines in which a mix is written."""
    columns = [f"{name}={top}" for name, top in zip(table.columns, table.tops)]
    lines = [" ".join(["table", *columns])]
    for session in sessions:
        lines.append("session")
        for transaction in session:
            lines.extend(transaction_lines(transaction))
    return lines


def read_table(line):
    """Return the table that the first line of a mix writes; raise BadMix if it writes none."""
    word, *parts = line.split(" ")
    if word != "table":
        raise BadMix(0)
    columns = []
    for part in parts:
        name, _, top = part.partition("=")
        columns.append((name, TOPS.get(top)))
    try:
        return Table(columns)
    except BadTable:
        raise BadMix(0) from None


def read_statement_line(lines, at, table):
    """Return the statement that a line of a mix writes; raise BadMix if it writes none."""
    try:
        return Statement(lines[at], table)
    except BadStatement:
        raise BadMix(at) from None


def read_sessions(lines, table):
    """Return the sessions that stand behind the first line, lists of transactions as (statements, end, level)."""
    sessions = []
    begun = None
    for at in range(1, len(lines)):
        line = lines[at]
        if begun is not None and line in ENDS:
            statements, level = begun
            sessions[-1].append((statements, line, level))
            begun = None
        elif begun is not None:
            begun[0].append(read_statement_line(lines, at, table))
        elif line in BEGINS and sessions:
            begun = ([], BEGINS[line])
        elif line == "session":
            sessions.append([])
        else:
            raise BadMix(at)
    if begun is not None:
        raise BadMix(len(lines))
    return sessions


class Mix:
    """Sessions over one table, each with transactions that run one after another."""

    def __init__(self, table, sessions):
        if len(sessions) == 0:
            raise BadMix(-1)
        for at, session in enumerate(sessions):
            if not is_session(session, table):
                raise BadMix(at)
        self.table = table
        self.sessions = tuple([tuple(session) for session in sessions])
        self._events = [session_events(number, session) for number, session in enumerate(sessions)]
        self._lines = mix_lines(table, sessions)
        if len(sessions) > 4:
            raise TooMany("sessions")
        if max([len(session) for session in sessions]) > 4:
            raise TooMany("transactions")
        if len(self) > 12:
            raise TooMany("events")
        if len(self.names()) > 2:
            raise TooMany("names")

    @classmethod
    def of(cls, table, *sessions):
        """Return the mix of these sessions."""
        return cls(table, sessions)

    @classmethod
    def read(cls, text):
        """Return the mix that a text writes; all its lines are checked before what they say."""
        if not isinstance(text, str):
            raise BadMix(-1)
        lines = text.split("\n")
        table = read_table(lines[0])
        sessions = [
            [Transaction(statements, ends=ends, level=level) for statements, ends, level in session]
            for session in read_sessions(lines, table)
        ]
        return cls(table, sessions)

    def names(self):
        """Return the names that the mix mentions, ascending."""
        return sorted(set([
            name
            for session in self.sessions for transaction in session for statement in transaction.statements
            for name in statement.names()
        ]))

    def kinds(self):
        """Return what a row can be at the beginning, and for each name that it can be missing."""
        return kinds_of(self.table, self.names())

    def events(self):
        """Return a list for each session with its events in order, as (session, transaction, event)."""
        return [list(events) for events in self._events]

    def transactions(self):
        """Return the transactions as (session, transaction), ascending."""
        return [(number, at) for number, session in enumerate(self.sessions) for at in range(len(session))]

    def units(self):
        """Return the units as (session, transaction, statement), ascending."""
        return [
            (number, at, index)
            for number, session in enumerate(self.sessions) for at, transaction in enumerate(session)
            for index in range(len(transaction.statements)) if transaction.is_unit(index)
        ]

    def __len__(self):
        return len([event for events in self._events for event in events])

    def __str__(self):
        return "\n".join(self._lines)

    def __eq__(self, other):
        return isinstance(other, Mix) and self._lines == other._lines
