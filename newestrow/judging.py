"""Verdicts: whether every result of a mix is that of an order."""

from newestrow.explaining import Candidates, Case, decided
from newestrow.serial import ordered_outcomes
from newestrow.weavings import check_ways, orders


def by_orders(mix, by, returns):
    """Return the case of a mix and its orders as candidates; raise TooMany if it is too large to be judged."""
    check_ways(mix.kinds(), mix)
    things = orders(mix, by=by)
    case = Case(mix, mix.names(), mix.units() if returns else [])
    return case, Candidates(things, ordered_outcomes(mix, things, case.all_kinds, case.all_units))


class Verdict:
    """Whether a mix is safe, and a certificate of it."""

    def __init__(self, rows, least):
        self.certificate = ("safe", tuple(rows)) if least is None else ("unsafe", *least)
        self._database = () if least is None else least[1]

    def __bool__(self):
        return bool(self.certificate[0] == "safe")

    def __len__(self):
        return len(self._database)


def judge(mix, *, by="transactions", returns=True):
    """Return the verdict on a mix, for databases with any number of rows."""
    case, candidates = by_orders(mix, by, returns)
    rows, least = decided(case, candidates)
    return Verdict(rows, least)
