"""Runs: mixes and databases that the engine runs, by a weaving or by a list of integers."""

from newestrow.acting import Actor
from newestrow.databases import check_database, place_names
from newestrow.engine import Database
from newestrow.errors import Failed, Ring, Waits
from newestrow.mixes import ENDS, Mix
from newestrow.results import Result, result


def left_over(mix, undone):
    """Return a dict from each transaction that is not undone to what denotes it in the mix without the others."""
    going = [pair for pair in mix.transactions() if pair not in undone]
    sessions = sorted(set([session for session, _ in going]))
    left = {}
    for session, at in going:
        before = [other for other in left if other[0] == session]
        left[(session, at)] = (sessions.index(session), len(before))
    return left


def mix_without(mix, undone):
    """Return the mix without some transactions, None if there are no others."""
    sessions = [
        [transaction for at, transaction in enumerate(session) if (number, at) not in undone]
        for number, session in enumerate(mix.sessions)
    ]
    going = [session for session in sessions if session]
    return Mix(mix.table, going) if going else None


def gathered_rows(mix, database, committed, returned):
    """Return the result of a run of this mix: from the committed rows, and from what each unit returned."""
    names = place_names(database, mix.names())
    places = {at if name is None else name: at for at, name in enumerate(names)}
    ends = {places[tag if name is None else name]: values for tag, name, values in committed}
    rows = [(name, ends.get(place)) for place, name in enumerate(names)]
    found = {}
    for unit in mix.units():
        found[unit] = sorted([(places[tag if name is None else name], values) for tag, name, values in returned[unit]])
    return Result(rows, found)


class Run:
    """What came of a run: the mix without what the engine undid, its weaving and its result."""

    def __init__(self, mix, weaving, found, undone, steps):
        self.mix = mix
        self.weaving = tuple(weaving)
        self.result = found
        self.undone = tuple(undone)
        self.steps = steps


class Runner:
    """Takes a mix and a database through the engine; a deed is a pair of a session and a target, None for an event."""

    def __init__(self, mix, database):
        self._mix = mix
        self._database = database
        self._engine = Database(mix.table, list(database))
        self._actors = [Actor(mix, number, self._engine) for number in range(len(mix.sessions))]
        self._events = []
        self._undone = []
        self._steps = 0

    def deeds(self):
        """Return all deeds that are possible."""
        found = []
        for number, actor in enumerate(self._actors):
            if not actor.is_through() and not actor.is_waiting:
                found.extend([(number, target) for target in actor.targets or [None]])
        return found

    def visits(self, number):
        """Return the visits that a session has left."""
        return [(number, target) for target in self._actors[number].targets]

    def act(self, deed):
        """Do a deed; if it has to wait, or if the engine undoes the transaction, it is done as well."""
        number, target = deed
        actor = self._actors[number]
        self._steps += 1
        try:
            if target is None:
                self._go_on(number)
            else:
                actor.visit(target)
        except Waits:
            actor.is_waiting = True
        except (Ring, Failed):
            self._undone.append((number, actor.at))
            actor.leave()
            self._wake_others(number)

    def _go_on(self, number):
        actor = self._actors[number]
        pair = (number, actor.at)
        word = actor.go_on()
        self._events.append(pair)
        if word == "back" or word in ENDS:
            self._wake_others(number)

    def _wake_others(self, number):
        for other, actor in enumerate(self._actors):
            if other != number:
                actor.is_waiting = False

    def run(self):
        """Return what came of all deeds, at the end."""
        mix = mix_without(self._mix, self._undone)
        if mix is None:
            return Run(None, (), Result(self._database, {}), self._undone, self._steps)
        left = left_over(self._mix, self._undone)
        returned = {}
        for actor in self._actors:
            for (session, at, index), rows in actor.returned.items():
                if (session, at) in left:
                    unit = (*left[(session, at)], index)
                    returned[unit] = rows
        found = gathered_rows(mix, self._database, self._engine.committed(), returned)
        weaving = [left[pair][0] for pair in self._events if pair in left]
        return Run(mix, weaving, found, self._undone, self._steps)


def play(mix, weaving, database):
    """Return the run of a mix and a database that follows a weaving."""
    # This raises what is to be raised; without that, no session has to wait or fails.
    result(mix, weaving, database)
    runner = Runner(mix, database)
    for number in weaving:
        for deed in runner.visits(number):
            runner.act(deed)
        runner.act((number, None))
    return runner.run()


def drive(mix, database, picks):
    """Return the run of a mix and a database in which a list of integers picks the deeds."""
    check_database(mix.table, database)
    runner = Runner(mix, database)
    at = 0
    deeds = runner.deeds()
    while deeds:
        pick = picks[at] if at < len(picks) else 0
        runner.act(deeds[pick % len(deeds)])
        deeds = runner.deeds()
        at += 1
    return runner.run()
