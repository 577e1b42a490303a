"""Replacements: whether a company can see a difference between one part beside it and another."""

from newestrow.errors import TooMany
from newestrow.explaining import Candidates, Case, decided
from newestrow.mixes import Mix, kinds_of
from newestrow.weavings import check_ways, possible_weavings
from newestrow.ways import outcomes_in


def joined(company, part):
    """Return the mix of the sessions of a company, or of None, and behind them those of a part."""
    if company is None:
        return Mix(part.table, part.sessions)
    return Mix(company.table, [*company.sessions, *part.sessions])


def by_weavings(one, other, company, returns, strict):
    """Return the case of one part, and the weavings of the other part as candidates, both joined with the company."""
    first = joined(company, one)
    second = joined(company, other)
    names = sorted(set([*first.names(), *second.names()]))
    if len(names) > 2:
        raise TooMany("names")
    kinds = kinds_of(first.table, names)
    check_ways(kinds, first)
    check_ways(kinds, second)
    sessions = 0 if company is None else len(company.sessions)
    units = [unit for unit in first.units() if returns and unit[0] < sessions]
    things = list(possible_weavings(second))
    outcomes = [outcomes_in(second, weaving, kinds, units) for weaving in things]
    return Case(first, names, units), Candidates(things, outcomes, sessions=sessions if strict else None)


class Standing:
    """Whether a part stands for another one, and a certificate of it."""

    def __init__(self, rows, least):
        self.certificate = ("stands", tuple(rows)) if least is None else ("fails", *least)
        self._database = () if least is None else least[1]

    def __bool__(self):
        return bool(self.certificate[0] == "stands")

    def __len__(self):
        return len(self._database)


def stands_for(one, other, *, company=None, returns=True, strict=False):
    """Return whether one part stands for the other in a company, for databases with any number of rows."""
    case, candidates = by_weavings(one, other, company, returns, strict)
    rows, least = decided(case, candidates)
    return Standing(rows, least)
