"""Which sessions hold rows and the table, and which of them wait for which others."""

from newestrow.weavings import FREE, is_blocked


class Wish:
    """What a call needs: to hold the table in some way, or else to hold the row in a place in some mode.

    The tag is that of the row, None for a `put`, which is about the name.
    """

    def __init__(self, *, hold=FREE, place=None, mode=None, tag=None):
        self.hold = hold
        self.place = place
        self.mode = mode
        self.tag = tag


class Holds:
    """What the sessions of a database hold, and the wish of each session whose last call had to wait."""

    def __init__(self, store):
        self._store = store
        self._tables = {}
        self._acts = {}
        self._wishes = {}

    def begin(self, number):
        """Let a session hold nothing yet."""
        self._tables[number] = FREE
        self._acts[number] = []

    def take_table(self, number, hold):
        """Let a session hold the table as a statement makes it, or more if it does so already."""
        self._tables[number] = max(self._tables[number], hold)

    def take_row(self, number, place, mode):
        """Let a session hold the row in a place."""
        self._acts[number].append((place, mode))

    def many_acts(self, number):
        """Return on how many rows a session acted, without those that it released."""
        return len(self._acts[number])

    def let_go(self, number, many):
        """Release the rows on which a session acted, but for so many first acts."""
        self._acts[number] = self._acts[number][:many]

    def settle(self, number):
        """Note that a session waits no more."""
        if number in self._wishes:
            del self._wishes[number]

    def leave_all(self, number):
        """Let a session hold nothing and wait no more, for good."""
        self.settle(number)
        del self._tables[number]
        del self._acts[number]

    def in_way(self, number, wish):
        """Return the other sessions that stand in the way of what a session wishes, ascending."""
        if wish.place is None:
            return tuple([
                other for other, hold in self._tables.items() if other != number and is_blocked(wish.hold, [hold])
            ])
        if wish.tag is not None and self._store.is_gone(wish.place, wish.tag):
            return ()
        return tuple([
            other for other, acts in self._acts.items()
            if other != number and any([place == wish.place and "sole" in (mode, wish.mode) for place, mode in acts])
        ])

    def wait(self, number, wish):
        """Let a session wait for its wish; return a shortest ring of sessions that wait for each other, or None."""
        self._wishes[number] = wish
        seen = {number: True}
        paths = [(number,)]
        while paths:
            longer = []
            for path in paths:
                others = self._waits_for(path[-1])
                if number in others:
                    return path
                for other in others:
                    if other not in seen:
                        seen[other] = True
                        longer.append((*path, other))
            paths = longer
        return None

    def _waits_for(self, number):
        """Return the sessions for which a session waits now."""
        return self.in_way(number, self._wishes[number]) if number in self._wishes else ()
