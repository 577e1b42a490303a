"""Weavings of a mix, in which its events happen one by one, and orders, in which nothing happens at the same time."""

from math import comb

from newestrow.errors import BadWeaving, NotPossible, TooMany
from newestrow.mixes import END
from newestrow.shapes import is_integer, is_integers

# How a transaction holds the table as a whole.
FREE = 0
BUSY = 1
OWNS = 2


def many_merges(counts):
    """Return in how many ways sequences of these lengths can be merged into one."""
    many = 1
    total = 0
    for count in counts:
        total += count
        many = many * comb(total, count)
    return many


def merge_after(merge):
    """Return the next greater tuple with the same items, or None."""
    at = len(merge) - 2
    while at >= 0 and merge[at] >= merge[at + 1]:
        at -= 1
    if at < 0:
        return None
    other = len(merge) - 1
    while merge[other] <= merge[at]:
        other -= 1
    moved = list(merge)
    moved[at] = merge[other]
    moved[other] = merge[at]
    return tuple(moved[:at + 1] + moved[:at:-1])


def merges(counts):
    """Give, ascending, all tuples in which each index of counts stands as many times as counts tells."""
    merge = tuple([number for number, count in enumerate(counts) for _ in range(count)])
    while merge is not None:
        yield merge
        merge = merge_after(merge)


def merged(sequences, merge):
    """Return the items of all sequences; the merge tells for each place whose next item stands there."""
    taken = [0 for _ in sequences]
    found = []
    for number in merge:
        found.append(sequences[number][taken[number]])
        taken[number] += 1
    return found


def wrong_index(thing, counts):
    """Return what BadWeaving tells of any value, None if it is a weaving of sessions with so many events."""
    if not isinstance(thing, tuple):
        return -1
    left = list(counts)
    for at, session in enumerate(thing):
        if not is_integer(session) or not 0 <= session < len(left) or left[session] == 0:
            return at
        left[session] = left[session] - 1
    return None if sum(left) == 0 else len(thing)


class Weavings:
    """All weavings of a mix."""

    def __init__(self, mix):
        self._counts = [len(events) for events in mix.events()]
        self._many = many_merges(self._counts)

    def __len__(self):
        return len(range(self._many))

    def each(self):
        """Give all weavings, ascending."""
        yield from merges(self._counts)

    def __contains__(self, thing):
        return wrong_index(thing, self._counts) is None


def woven_events(mix, weaving):
    """Return the events of a mix in the order of a weaving; raise BadWeaving if it is none."""
    events = mix.events()
    wrong = wrong_index(weaving, [len(session) for session in events])
    if wrong is not None:
        raise BadWeaving(wrong)
    return merged(events, weaving)


def position_of(mix, weaving):
    """Return a dict from each event, as (session, transaction, statement or -1 for the end), to its position."""
    return {event: position for position, event in enumerate(woven_events(mix, weaving))}


def hold_of(statement):
    """Return how a statement makes its transaction hold the table."""
    if statement.word == "table":
        return OWNS
    return FREE if statement.mode is None else BUSY


def is_blocked(hold, others):
    """Tell whether a statement cannot be executed while other transactions hold the table like this."""
    if hold == FREE:
        return False
    return max(others, default=FREE) >= (BUSY if hold == OWNS else OWNS)


def check_possible(mix, weaving):
    """Raise NotPossible with the position of the first event that is blocked, if there is one."""
    holds = [FREE for _ in mix.sessions]
    for position, (session, at, event) in enumerate(woven_events(mix, weaving)):
        if event == END:
            holds[session] = FREE
            continue
        hold = hold_of(mix.sessions[session][at].statements[event])
        if is_blocked(hold, holds[:session] + holds[session + 1:]):
            raise NotPossible(position)
        holds[session] = max(holds[session], hold)


def is_possible(mix, weaving):
    """Tell whether no event of a weaving is blocked."""
    try:
        check_possible(mix, weaving)
    except NotPossible:
        return False
    return True


def possible_weavings(mix):
    """Give all possible weavings of a mix, ascending."""
    weavings = Weavings(mix)
    for weaving in weavings.each():
        if is_possible(mix, weaving):
            yield weaving


def check_ways(kinds, mix):
    """Raise TooMany if there are too many kinds and weavings to go through them all."""
    weavings = Weavings(mix)
    if len(kinds) * len(weavings) > 20000:
        raise TooMany("ways")


def order_sequences(mix, by):
    """Return a list for each session with what an order arranges of it."""
    found = [[] for _ in mix.sessions]
    if by == "statements":
        for unit in mix.units():
            found[unit[0]].append(unit)
    else:
        for session, at in mix.transactions():
            if mix.sessions[session][at].ends == "commit":
                found[session].append((session, at))
    return found


def is_order(mix, thing, by):
    """Tell whether any value is an order of the mix by transactions or by statements."""
    sequences = order_sequences(mix, by)
    if not isinstance(thing, tuple):
        return False
    merge = []
    for part in thing:
        if not is_integers(part) or not part:
            return False
        merge.append(part[0])
    if wrong_index(tuple(merge), [len(sequence) for sequence in sequences]) is not None:
        return False
    return tuple(merged(sequences, merge)) == thing


def orders(mix, *, by="transactions"):
    """Return all orders by transactions or by statements, ascending."""
    sequences = order_sequences(mix, by)
    counts = [len(sequence) for sequence in sequences]
    if many_merges(counts) > 1000:
        raise TooMany("orders")
    return [tuple(merged(sequences, merge)) for merge in merges(counts)]
