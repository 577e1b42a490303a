"""The errors of all modules; the fields of an error are what it is made with."""


def copied(field):
    """Return an equal value that later changes to lists or dicts in the given one do not reach."""
    if isinstance(field, list):
        return [copied(part) for part in field]
    if isinstance(field, tuple):
        return tuple([copied(part) for part in field])
    if isinstance(field, dict):
        return {key: copied(part) for key, part in field.items()}
    return field


class NewestrowError(ValueError):
    """What was passed does not do."""


class BadTable(NewestrowError):
    """A list of columns is no table."""

    def __init__(self, at):
        self.at = copied(at)


class BadCondition(NewestrowError):
    """A text is no condition."""

    def __init__(self, at):
        self.at = copied(at)


class BadStatement(NewestrowError):
    """A text is no statement, or the statement cannot stand there."""

    def __init__(self, at):
        self.at = copied(at)


class BadTransaction(NewestrowError):
    """Statements, an end and a level are no transaction."""

    def __init__(self, at):
        self.at = copied(at)


class BadMix(NewestrowError):
    """Sessions or lines are no mix."""

    def __init__(self, at):
        self.at = copied(at)


class TooMany(NewestrowError):
    """There are more than the bounds allow."""

    def __init__(self, what):
        self.what = copied(what)


class BadWeaving(NewestrowError):
    """A value is no weaving of the mix."""

    def __init__(self, at):
        self.at = copied(at)


class BadKind(NewestrowError):
    """A value is no kind of the mix."""

    def __init__(self, kind):
        self.kind = copied(kind)


class BadDatabase(NewestrowError):
    """A value is no database."""

    def __init__(self, at):
        self.at = copied(at)


class BadOrder(NewestrowError):
    """A value is no order of the mix."""

    def __init__(self, order):
        self.order = copied(order)


class BadHistory(NewestrowError):
    """A value is no history of the mix."""

    def __init__(self, at):
        self.at = copied(at)


class NotPossible(NewestrowError):
    """An event of the weaving is blocked."""

    def __init__(self, at):
        self.at = copied(at)


class Bars(NewestrowError):
    """A row bars the weaving."""

    def __init__(self, place, first, second):
        self.place = copied(place)
        self.first = copied(first)
        self.second = copied(second)


class Waits(RuntimeError):
    """A session has to wait for others."""

    def __init__(self, holders):
        self.holders = copied(holders)


class Ring(RuntimeError):
    """A session would wait for itself, through others, and was undone."""

    def __init__(self, sessions):
        self.sessions = copied(sessions)


class Failed(RuntimeError):
    """A row was changed since the snapshot, and the session was undone."""

    def __init__(self, target):
        self.target = copied(target)


class Busy(RuntimeError):
    """A statement of the session is not finished."""


class Ended(RuntimeError):
    """The transaction of the session is over."""


class NoTarget(LookupError):
    """The statement has no such target left."""

    def __init__(self, target):
        self.target = copied(target)


class Unfinished(LookupError):
    """The statement has targets left."""

    def __init__(self, targets):
        self.targets = copied(targets)
