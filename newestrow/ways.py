"""The way of one row through a weaving, and the acts that bar the row from it."""

from newestrow.effects import concerns, effect_of, is_about_rows
from newestrow.errors import BadKind, Bars
from newestrow.mixes import END
from newestrow.shapes import is_tuple_of
from newestrow.weavings import check_possible, position_of

# A version of a row is None where there is no row, otherwise a pair (life, values). The life is
# the position of the `put` that inserted the row, or BEGINNING for a row that was there before.
BEGINNING = -1


def values_of(version):
    """Return the values of a version, None if it is no row."""
    return None if version is None else version[1]


def first_about_rows(transaction):
    """Return the index of the first statement about rows."""
    return [index for index, statement in enumerate(transaction.statements) if is_about_rows(statement)][0]


class Span:
    """A statement about rows in a weaving, with the positions that decide what it does."""

    def __init__(self, mix, unit, positions):
        session, at, index = unit
        transaction = mix.sessions[session][at]
        self.unit = unit
        self.transaction = (session, at)
        self.statement = transaction.statements[index]
        self.repeatable = transaction.level == "repeatable"
        first = first_about_rows(transaction) if self.repeatable else index
        self.snapshot = positions[(session, at, first)]
        self.position = positions[unit]
        self.until = positions[(session, at, transaction.event_after(index))]
        self.release = positions[(session, at, transaction.release_of(index))]


def spans_of(mix, positions):
    """Return a span for each statement about rows."""
    return [
        Span(mix, (session, at, index), positions)
        for session, at in mix.transactions()
        for index, statement in enumerate(mix.sessions[session][at].statements) if is_about_rows(statement)
    ]


def woven_steps(mix, weaving):
    """Return for each position the span that goes until it and the transaction that is committed there, or None."""
    positions = position_of(mix, weaving)
    spans = {span.until: span for span in spans_of(mix, positions)}
    commits = {
        positions[(session, at, END)]: (session, at)
        for session, at in mix.transactions() if mix.sessions[session][at].ends == "commit"
    }
    return [(spans.get(position), commits.get(position)) for position in range(len(mix))]


class Row:
    """What is known of a row, or of the place of a name, while it goes through a weaving.

    `commits` are pairs (position, version), that of the initial version first; `writes` are pairs
    (span, version) of all statements, undone ones too; `acts` are spans; `bars` are pairs (second,
    first) of what `Bars` tells; `returned` is as in `Way`.
    """

    def __init__(self, kind, units):
        name, values = kind
        self.name = name
        self.commits = [(BEGINNING, None if values is None else (BEGINNING, values))]
        self.writes = []
        self.acts = []
        self.bars = []
        self.returned = {unit: None for unit in units}


def committed_before(row, position):
    """Return what the last commit before a position wrote, as (position of that commit, version)."""
    return [entry for entry in row.commits if entry[0] < position][-1]


def own_versions(row, transaction, position):
    """Return the versions that a transaction wrote and that no `back` before a position has undone."""
    return [version for span, version in row.writes if span.transaction == transaction and span.release >= position]


def give(row, span, values):
    """Note that a statement returned the row; what an undone one returned does not count."""
    if span.unit in row.returned:
        row.returned[span.unit] = values


def work(row, span, version):
    """Let a statement do its work on the version that it reads; a row that it inserts is a new life."""
    life, values = (span.position, None) if version is None else version
    writes, fresh, returned = effect_of(span.statement, row.name, values)
    if writes:
        row.writes.append((span, None if fresh is None else (life, fresh)))
    if returned is not None:
        give(row, span, returned)


def go_through(row, span):
    """Let the row go through a statement, behind all that happened to it before the span ends."""
    own = own_versions(row, span.transaction, span.position)
    written_at, current = committed_before(row, span.until)
    _, seen = committed_before(row, span.snapshot)
    if own:
        seen = current = own[-1]
    if not concerns(span.statement, row.name, values_of(seen)):
        return
    if span.statement.word == "look":
        give(row, span, seen[1])
        return
    renewed = written_at > span.snapshot and not own
    if renewed and span.repeatable:
        row.bars.append((span.position, written_at))
    if span.statement.word == "put":
        row.acts.append(span)
        work(row, span, current)
    elif current is not None and current[0] == seen[0]:
        row.acts.append(span)
        if not renewed or concerns(span.statement, row.name, current[1]):
            work(row, span, current)


def commit(row, transaction, position):
    """Let a commit write what its transaction wrote last, if it wrote anything."""
    own = own_versions(row, transaction, position)
    if own:
        row.commits.append((position, own[-1]))


def gone_row(steps, units, kind):
    """Return the row of a kind behind all steps of a weaving that is possible, also if the row bars it."""
    row = Row(kind, units)
    for position, (span, transaction) in enumerate(steps):
        if span is not None:
            go_through(row, span)
        if transaction is not None:
            commit(row, transaction, position)
    return row


def overlaps(acts):
    """Return pairs (second, first) of conflicting acts that would both hold the row at one time."""
    return [
        (other.position, one.position)
        for one in acts for other in acts
        if one.transaction != other.transaction and "sole" in (one.statement.mode, other.statement.mode)
        and one.release < other.release and other.until < one.release
    ]


def bars_of(row):
    """Return pairs (second, first) of all that bars the row."""
    return row.bars + overlaps(row.acts)


def outcomes_in(mix, weaving, kinds, units):
    """Return what becomes of a row of each kind in a weaving that is possible: (end, what the units returned).

    It is None for a kind that bars. A name that the mix does not mention makes no difference to it.
    """
    steps = woven_steps(mix, weaving)
    found = []
    for kind in kinds:
        row = gone_row(steps, units, kind)
        returned = tuple([row.returned[unit] for unit in units])
        found.append(None if bars_of(row) else (values_of(row.commits[-1][1]), returned))
    return found


def versions_of(row):
    """Return pairs (position, values or None) of the commits that wrote the row."""
    return tuple([(position, values_of(version)) for position, version in row.commits[1:]])


def committed_values(mix, weaving, kinds):
    """Return for each kind what commits write of it in a weaving that is possible, () for a kind that bars."""
    steps = woven_steps(mix, weaving)
    found = [gone_row(steps, [], kind) for kind in kinds]
    return [() if bars_of(row) else versions_of(row) for row in found]


class Way:
    """What happens to a row in a weaving that it does not bar."""

    def __init__(self, kind, row):
        self.kind = kind
        self.end = values_of(row.commits[-1][1])
        self.returned = {unit: row.returned[unit] for unit in row.returned}
        self.versions = versions_of(row)
        self.acts = tuple(sorted([(span.position, span.statement.mode, span.release) for span in row.acts]))

    def __eq__(self, other):
        if not isinstance(other, Way):
            return False
        mine = (self.kind, self.end, self.returned, self.versions, self.acts)
        return mine == (other.kind, other.end, other.returned, other.versions, other.acts)


def is_kind(thing, mix):
    """Tell whether any value is a kind of the mix."""
    if not is_tuple_of(thing, 2):
        return False
    name, values = thing
    if name is None:
        return values in mix.table
    return name in mix.names() and (values is None or values in mix.table)


def way(mix, weaving, kind):
    """Return the way of a row through a weaving; raise Bars if the row bars it."""
    check_possible(mix, weaving)
    if not is_kind(kind, mix):
        raise BadKind(kind)
    row = gone_row(woven_steps(mix, weaving), mix.units(), kind)
    bars = bars_of(row)
    if bars:
        second, first = min(bars)
        raise Bars(0, first, second)
    return Way(kind, row)
