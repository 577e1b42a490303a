"""Repairs: which transactions to change so that a mix is safe, and which conditions a mix keeps."""

from itertools import combinations

from newestrow.effects import is_about_rows
from newestrow.explaining import Case, first_unexplained
from newestrow.judging import by_orders
from newestrow.mixes import Mix, Transaction
from newestrow.statements import Statement
from newestrow.weavings import check_ways, possible_weavings
from newestrow.ways import committed_values


def tabled(transaction):
    """Return a transaction that begins with one more `table`."""
    table = Statement("table", transaction.statements[0].table)
    return Transaction([table, *transaction.statements], ends=transaction.ends, level=transaction.level)


def repeatable(transaction):
    """Return a transaction at the level `repeatable`."""
    return Transaction(transaction.statements, ends=transaction.ends, level="repeatable")


def replaced(mix, chosen, new_one):
    """Return the mix with what a function makes of the chosen transactions in their place."""
    sessions = [list(session) for session in mix.sessions]
    for number, at in chosen:
        sessions[number][at] = new_one(sessions[number][at])
    return Mix(mix.table, sessions)


def with_table(mix, chosen):
    """Return the mix in which the chosen transactions begin with one more `table`."""
    return replaced(mix, chosen, tabled)


def raised(mix, chosen):
    """Return the mix in which the chosen transactions are repeatable."""
    return replaced(mix, chosen, repeatable)


def is_raisable(transaction):
    """Tell whether it can make a difference that a transaction is repeatable."""
    return transaction.level == "committed" and any([is_about_rows(statement) for statement in transaction.statements])


class Tabling:
    """Tells which transactions make a mix safe if they begin with `table`."""

    def __init__(self, mix, by, returns):
        by_orders(with_table(mix, mix.transactions()), by, returns)
        self._mix = mix
        self._by = by
        self._returns = returns
        self.pairs = mix.transactions()

    def makes_safe(self, chosen):
        """Tell whether the mix is safe with the chosen transactions changed."""
        mix = with_table(self._mix, chosen)
        case, candidates = by_orders(mix, self._by, self._returns)
        weavings = list(possible_weavings(mix))
        return first_unexplained(case, candidates, weavings) is None


class Raising:
    """Tells which transactions make a mix safe if they are repeatable.

    Levels change neither which weavings are possible nor what orders do.
    """

    def __init__(self, mix, by, returns):
        self._case, self._candidates = by_orders(mix, by, returns)
        self._weavings = list(possible_weavings(mix))
        self._unsafe = []
        self.pairs = [(session, at) for session, at in mix.transactions() if is_raisable(mix.sessions[session][at])]

    def makes_safe(self, chosen):
        """Tell whether the mix is safe with the chosen transactions changed."""
        case = Case(raised(self._case.mix, chosen), self._case.all_names, self._case.all_units)
        # A weaving that showed that the mix is unsafe is likely to show it again.
        wrong = first_unexplained(case, self._candidates, [*self._unsafe, *self._weavings])
        if wrong is not None and wrong not in self._unsafe:
            self._unsafe = [wrong, *self._unsafe]
        return wrong is None


def least_sets(repair):
    """Return all sets of the fewest transactions that make a mix safe, ascending; [] if there is none."""
    for many in range(len(repair.pairs) + 1):
        found = [chosen for chosen in combinations(repair.pairs, many) if repair.makes_safe(chosen)]
        if found:
            return found
    return []


def least_table(mix, *, by="transactions", returns=True):
    """Return all least repairs by `table`."""
    return least_sets(Tabling(mix, by, returns))


def least_raised(mix, *, by="transactions", returns=True):
    """Return all least repairs by the level `repeatable`."""
    return least_sets(Raising(mix, by, returns))


def first_break(mix, weaving, kinds, condition):
    """Return the first of these kinds and the position of the first commit that break a condition; None if none do."""
    for kind, versions in zip(kinds, committed_values(mix, weaving, kinds)):
        for position, values in versions:
            if values is not None and not condition(values, kind[0]):
                return kind, position
    return None


def first_broken(mix, condition):
    """Return None if a mix keeps a condition, otherwise the first (weaving, kind, position) that breaks it."""
    check_ways(mix.kinds(), mix)
    kinds = [(name, values) for name, values in mix.kinds() if values is None or condition(values, name)]
    for weaving in possible_weavings(mix):
        found = first_break(mix, weaving, kinds, condition)
        if found is not None:
            return (weaving, *found)
    return None
