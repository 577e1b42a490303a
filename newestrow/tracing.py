"""Traces: whether what is known of some rows can come of a weaving, or of an order."""

from itertools import combinations

from newestrow.errors import BadHistory
from newestrow.explaining import Case
from newestrow.serial import ordered_outcomes
from newestrow.shapes import is_exact, is_integers, is_tuple_of
from newestrow.weavings import check_ways, orders, possible_weavings
from newestrow.ways import is_kind

UNKNOWN = "unknown"
MOST_ACCOUNTS = 12


def is_told(thing, mix):
    """Tell whether any value is a tuple of pairs (unit, values or None) with each unit of the mix at most once."""
    if not isinstance(thing, tuple):
        return False
    left = mix.units()
    for part in thing:
        if not is_tuple_of(part, 2):
            return False
        unit, values = part
        if not is_integers(unit) or unit not in left or not (values is None or values in mix.table):
            return False
        left.remove(unit)
    return True


def is_account(thing, mix):
    """Tell whether any value is an account of a place in the mix."""
    if not is_tuple_of(thing, 4):
        return False
    name, first, last, told = thing
    if name is None and first is None or name not in [None, *mix.names()]:
        return False
    if not all([values is None or values == UNKNOWN or values in mix.table for values in (first, last)]):
        return False
    return is_told(told, mix)


def check_history(mix, thing):
    """Raise BadHistory if any value is no history of the mix."""
    if not isinstance(thing, tuple) or len(thing) > MOST_ACCOUNTS:
        raise BadHistory(-1)
    names = []
    for at, account in enumerate(thing):
        if not is_account(account, mix) or account[0] in names:
            raise BadHistory(at)
        if account[0] is not None:
            names.append(account[0])


def check_trace(mix, history, by):
    """Raise an error if any value is no history of the mix, or if the mix is too large to be followed."""
    check_history(mix, history)
    if by == "weavings":
        check_ways(mix.kinds(), mix)
    else:
        orders(mix, by=by)


def each_outcome(case, by):
    """Give each possible weaving, or each order, with what becomes of each kind in it, None for one that bars."""
    if by == "weavings":
        for weaving in possible_weavings(case.mix):
            yield weaving, case.outcomes(weaving)
        return
    things = orders(case.mix, by=by)
    for thing, outcomes in zip(things, ordered_outcomes(case.mix, things, case.all_kinds, case.all_units)):
        yield thing, outcomes


def fits(account, units, kind, outcome):
    """Tell whether a kind with this outcome, None if it bars, fits an account."""
    name, first, last, told = account
    if outcome is None or kind[0] != name or first not in (UNKNOWN, kind[1]):
        return False
    end, returned = outcome
    return last in (UNKNOWN, end) and all([returned[units.index(unit)] == values for unit, values in told])


def fitting_kinds(case, history, outcomes):
    """Return for each account the kinds that fit it where each kind has this outcome; None if all of a name bar."""
    pairs = list(zip(case.all_kinds, outcomes))
    present = [kind[0] for kind, outcome in pairs if outcome is not None]
    if not all([name in present for name in case.all_names]):
        return None
    return [[kind for kind, outcome in pairs if fits(account, case.all_units, kind, outcome)] for account in history]


def first_never(given, many):
    """Return the fewest indexes below a number, and of these the first, that are not all in one of the given tuples."""
    for size in range(many + 1):
        for indexes in combinations(range(many), size):
            if not any([all([at in found for at in indexes]) for found in given]):
                return indexes
    return None


def followed(mix, history, by):
    """Return the first thing that gives the history and the kinds that fit each account there, and None.

    If nothing gives it, return None twice, and the indexes of the certificate.
    """
    case = Case(mix, mix.names(), mix.units())
    given = {}
    for thing, outcomes in each_outcome(case, by):
        found = fitting_kinds(case, history, outcomes)
        if found is None:
            continue
        fitted = tuple([at for at, kinds in enumerate(found) if kinds])
        if len(fitted) == len(history):
            return thing, found, None
        given[fitted] = True
    return None, None, first_never(list(given), len(history))


class Trace:
    """Whether something gives a history, and a certificate of it."""

    def __init__(self, thing, found, never):
        if never is None:
            self.certificate = ("given", thing, tuple([kinds[0] for kinds in found]))
        else:
            self.certificate = ("never", never)
        self._indexes = () if never is None else never

    def __bool__(self):
        return bool(self.certificate[0] == "given")

    def __len__(self):
        return len(self._indexes)


def trace(mix, history, *, by="weavings"):
    """Return whether a possible weaving, or an order, gives a history."""
    check_trace(mix, history, by)
    thing, found, never = followed(mix, history, by)
    return Trace(thing, found, never)


def is_trace(mix, history, thing, *, by="weavings"):
    """Tell whether any value is a certificate of what `trace` tells."""
    check_trace(mix, history, by)
    wanted, found, never = followed(mix, history, by)
    if never is not None:
        return is_tuple_of(thing, 2) and thing[0] == "never" and is_integers(thing[1]) and thing[1] == never
    if not is_tuple_of(thing, 3) or thing[0] != "given" or not is_exact(thing[1]) or thing[1] != wanted:
        return False
    if not is_tuple_of(thing[2], len(history)):
        return False
    return all([is_kind(kind, mix) and kind in kinds for kind, kinds in zip(thing[2], found)])
