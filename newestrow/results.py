"""Results: what becomes of all rows of a database in a weaving or in an order."""

from newestrow.databases import check_database, place_kinds, place_names
from newestrow.errors import BadOrder, Bars
from newestrow.serial import ordered_outcomes
from newestrow.weavings import check_possible, is_order
from newestrow.ways import outcomes_in, way


class Result:
    """The rows at the end, place by place, and the rows that the units returned."""

    def __init__(self, rows, returned):
        self.rows = tuple(rows)
        self.returned = {unit: tuple(returned[unit]) for unit in returned}

    def __eq__(self, other):
        return isinstance(other, Result) and self.rows == other.rows and self.returned == other.returned


def gathered(names, units, outcomes):
    """Return the result of places with these names, each with its outcome."""
    returned = {}
    for at, unit in enumerate(units):
        found = [(place, values[at]) for place, (_, values) in enumerate(outcomes)]
        returned[unit] = [(place, values) for place, values in found if values is not None]
    return Result([(name, end) for name, (end, _) in zip(names, outcomes)], returned)


def raise_bars(mix, weaving, place, kind):
    """Raise what `way` raises for a kind that bars, with the place of the row."""
    try:
        way(mix, weaving, kind)
    except Bars as wrong:
        raise Bars(place, wrong.first, wrong.second) from None


def result(mix, weaving, database):
    """Return the result of a database in a weaving."""
    check_possible(mix, weaving)
    check_database(mix.table, database)
    names = mix.names()
    kinds = place_kinds(database, names)
    outcomes = outcomes_in(mix, weaving, kinds, mix.units())
    for place, outcome in enumerate(outcomes):
        if outcome is None:
            raise_bars(mix, weaving, place, kinds[place])
    return gathered(place_names(database, names), mix.units(), outcomes)


def serial_result(mix, order, database):
    """Return the result of a database in an order by transactions or by statements."""
    if not is_order(mix, order, "transactions") and not is_order(mix, order, "statements"):
        raise BadOrder(order)
    check_database(mix.table, database)
    names = mix.names()
    outcomes = ordered_outcomes(mix, [order], place_kinds(database, names), mix.units())
    return gathered(place_names(database, names), mix.units(), outcomes[0])
