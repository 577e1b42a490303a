"""What several test files build: mixes from short texts, and values of every sort."""

from newestrow.errors import Bars, NotPossible
from newestrow.mixes import Mix
from newestrow.results import result
from newestrow.weavings import Weavings

# Values of every sort that the document's "any value" may be.
ANY = [None, True, False, 0, 1, -1, 7, 10 ** 29, -10 ** 29, "", "a", "commit", "look", (), (0,), (0, 1), (True,), (None,), [],
       [0], [[]], [None, ["a"]], ((), ((),)), ("k", None), (0, (1, (2, [3, [4, ["five"]]])))]


def mix_text(columns, *sessions):
    """Return the text of a mix: columns as `a=2 b=1`, a session as its lines with ` / ` between them.

    A transaction that does not begin with `begin repeatable` is given its line `begin`.
    """
    lines = ["table " + columns]
    for session in sessions:
        lines.append("session")
        inside = False
        for line in session.split(" / "):
            if not inside and not line.startswith("begin"):
                lines.append("begin")
            lines.append(line)
            inside = line not in ("commit", "undo")
    return "\n".join(lines)


def mix_of(columns, *sessions):
    """Return the mix that `mix_text` writes."""
    return Mix.read(mix_text(columns, *sessions))


LIVELY = ["look", "look where a = 0", "look where a = 1", "look where name = k", "share where a = 0", "sole where a = 1",
          "change a = a + 1 where a < 2", "change a = 0 where a = 1", "change a = 1 where a = 0", "change a = 2 where name != k",
          "remove where a = 1", "remove where name = k", "put k (0)", "put k (1) or change a = 1", "put k (2) or change a = 0 where a = 2"]


def lively_session(chance, many):
    """Return a session with one transaction of so many statements, with which others easily interfere."""
    lines = [chance.choice(LIVELY) for _ in range(many)]
    if chance.random() < 0.2:
        at = chance.randrange(many)
        lines[at:] = ["mark", lines[at], "back", *lines[at + 1:]]
    if chance.random() < 0.1:
        lines.insert(0, "table")
    if chance.random() < 0.3:
        lines.insert(0, "begin repeatable")
    return " / ".join([*lines, "undo" if chance.random() < 0.1 else "commit"])


def lively_mix(chance, most):
    """Return a mix of two or three such sessions with so many weavings at most."""
    while True:
        many = chance.choice([(1, 2), (2, 2), (2, 1), (1, 3), (2, 3), (1, 1, 1), (1, 1, 2)])
        mix = mix_of("a=2", *[lively_session(chance, statements) for statements in many])
        if len(Weavings(mix)) <= most:
            return mix


def with_parts_replaced(thing, parts):
    """Give what becomes of nested tuples when one part, at any depth, is replaced by one of these parts, left out or doubled."""
    yield from parts
    if isinstance(thing, tuple):
        for at, part in enumerate(thing):
            before, behind = thing[:at], thing[at + 1:]
            yield before + behind
            yield before + (part, part) + behind
            for bent in with_parts_replaced(part, parts):
                yield before + (bent,) + behind
        yield list(thing)


def result_or_none(mix, weaving, database):
    """Return the result of a database in a weaving, None if the weaving is not possible or a place bars it."""
    try:
        return result(mix, weaving, database)
    except (NotPossible, Bars):
        return None
