"""Orders: what becomes of a row when transactions, or units, are executed one after another."""

from newestrow.effects import concerns, effect_of


class Serial:
    """Executes orders of a mix on single rows; what a unit does to a row is worked out once."""

    def __init__(self, mix):
        self._units = mix.units()
        self._statements = {
            (session, at, index): mix.sessions[session][at].statements[index] for session, at, index in self._units
        }
        self._known = {}

    def units_in(self, order):
        """Return the units of an order by transactions or by statements as they follow each other."""
        return [unit for part in order for unit in self._units if unit[:len(part)] == part]

    def _step(self, unit, name, values):
        """Return the values behind a unit, and what it returns, of a row with these values before it."""
        key = (unit, name, values)
        if key not in self._known:
            statement = self._statements[unit]
            step = (values, None)
            if concerns(statement, name, values):
                _, fresh, returned = effect_of(statement, name, values)
                step = (fresh, returned)
            self._known[key] = step
        return self._known[key]

    def outcome(self, sequence, kind, units):
        """Return the values at the end and what these units returned, where all units are executed in this sequence."""
        name, values = kind
        returned = {}
        for unit in sequence:
            values, returned[unit] = self._step(unit, name, values)
        return values, tuple([returned[unit] for unit in units])


def ordered_outcomes(mix, things, kinds, units):
    """Return for each of these orders what becomes of a row of each kind: (end, what the units returned)."""
    serial = Serial(mix)
    sequences = [serial.units_in(order) for order in things]
    return [[serial.outcome(sequence, kind, units) for kind in kinds] for sequence in sequences]
