"""What several test files build: mixes from short texts, and values of every sort."""

from newestrow.mixes import Mix

# Values of every sort that the document's "any value" may be.
ANY = [None, True, False, 0, 1, -1, 7, 10 ** 29, -10 ** 29, "", "a", "commit", "look", (), (0,), (0, 1), (True,), (None,), [],
       [0], [[]], [None, ["a"]], ((), ((),)), ("k", None), (0, (1, (2, [3, [4, ["five"]]])))]


def mix_text(columns, *sessions):
    """Return the text of a mix: columns as `a=2 b=1`, a session as its lines with ` / ` between them.

    A transaction that does not begin with `begin repeatable` is given its line `begin`.
    """
    lines = ["table " + columns]
    for session in sessions:
        lines.append("session")
        inside = False
        for line in session.split(" / "):
            if not inside and not line.startswith("begin"):
                lines.append("begin")
            lines.append(line)
            inside = line not in ("commit", "undo")
    return "\n".join(lines)


def mix_of(columns, *sessions):
    """Return the mix that `mix_text` writes."""
    return Mix.read(mix_text(columns, *sessions))
