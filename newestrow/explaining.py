"""Which of many candidates explain what a weaving does to rows, and which few rows none of them explains.

Candidates are orders, or weavings of another mix, and have numbers. The mask of a kind in a weaving
tells which of them give a row of this kind the same outcome. Candidates explain rows one by one, so
those that explain several rows are common to their masks.
"""

from newestrow.masks import common, has_number, is_empty, lowest, mask_of
from newestrow.mixes import kinds_of
from newestrow.shapes import is_exact
from newestrow.weavings import possible_weavings
from newestrow.ways import outcomes_in


class Case:
    """A mix whose weavings are to be explained: for rows with these names, and what these units return."""

    def __init__(self, mix, names, units):
        self.mix = mix
        self.all_names = list(names)
        self.all_units = list(units)
        self.all_kinds = kinds_of(mix.table, names)

    def outcomes(self, weaving):
        """Return what becomes of each kind in a possible weaving, None for one that bars."""
        return outcomes_in(self.mix, weaving, self.all_kinds, self.all_units)


def company_order(weaving, sessions):
    """Return a weaving without the numbers of all but the first sessions."""
    return tuple([number for number in weaving if number < sessions])


class Candidates:
    """Orders, or weavings, with what becomes of each kind in them.

    If `sessions` is not None, only those candidates explain a weaving that have the events of so
    many first sessions in the same order.
    """

    def __init__(self, things, outcomes, *, sessions=None):
        self.things = list(things)
        self._sessions = sessions
        self._numbers = {thing: number for number, thing in enumerate(things)}
        self._every = self.mask(list(self._numbers.values()))
        self._masks = []
        for at in range(len(outcomes[0])):
            self._masks.append(self._grouped([row[at] for row in outcomes]))
        self._groups = {}
        if sessions is not None:
            self._groups = self._grouped([company_order(thing, sessions) for thing in things])

    def _grouped(self, values):
        """Return a dict from each of these values, one for each candidate, to the mask of those that have it."""
        found = {}
        for number, value in enumerate(values):
            found.setdefault(value, []).append(number)
        return {value: self.mask(numbers) for value, numbers in found.items()}

    def mask(self, numbers):
        """Return the mask of candidates with these numbers."""
        return mask_of(numbers, len(self.things))

    def number_of(self, thing):
        """Return the number of any value, None if it is no candidate."""
        return self._numbers.get(thing) if is_exact(thing) else None

    def whole(self, weaving):
        """Return the mask of all candidates that may explain a weaving."""
        if self._sessions is None:
            return self._every
        return self._groups.get(company_order(weaving, self._sessions), self.mask([]))

    def masks(self, outcomes):
        """Return for each kind the mask of those that give it this outcome, None for one that bars."""
        none = self.mask([])
        return [
            None if outcome is None else known.get(outcome, none) for known, outcome in zip(self._masks, outcomes)
        ]


def with_options(choices, options):
    """Return choices, each with one more of these options; see `Question`."""
    found = {}
    for mask, rows in choices.items():
        for option, kind in options.items():
            more = rows if kind[1] is None else [*rows, kind]
            both = common(mask, option)
            if both not in found or len(more) < len(found[both]):
                found[both] = more
    return found


def useful(rest, plain):
    """Return pairs (mask, kind) of those kinds that leave as little of the rest as any other does."""
    left = {}
    for mask, kind in plain.items():
        left.setdefault(common(mask, rest), kind)
    return [
        (mask, kind) for mask, kind in left.items()
        if not any([common(other, mask) == other and other != mask for other in left])
    ]


def covering(rest, pairs, many):
    """Return so many kinds at most that leave nothing of the rest, None if no so many do."""
    if is_empty(rest):
        return []
    if many == 0:
        return None
    number = lowest(rest)
    for mask, kind in pairs:
        if not has_number(mask, number):
            more = covering(common(rest, mask), pairs, many - 1)
            if more is not None:
                return [kind, *more]
    return None


class Question:
    """Which candidates of a mask explain the rows that can be in a weaving.

    Of kinds with one mask it is enough to keep one. `_plain` is a dict from the masks of kinds
    without a name to such kinds; `_choices` is a dict with an entry for each choice of one kind
    for each name: the candidates that explain these, and those of the kinds that have a row.
    """

    def __init__(self, whole, names, kinds, masks):
        options = {name: {} for name in [None, *names]}
        for kind, mask in zip(kinds, masks):
            if mask is not None:
                options[kind[0]].setdefault(mask, kind)
        self._plain = options[None]
        self._choices = {whole: []}
        for name in names:
            self._choices = with_options(self._choices, options[name])
        self._left = whole
        for mask in self._plain:
            self._left = common(self._left, mask)

    def answers(self):
        """Return numbers of candidates, for each choice one that explains it at least; None if none explains one."""
        numbers = []
        for mask in self._choices:
            both = common(mask, self._left)
            if is_empty(both):
                return None
            if not any([has_number(both, number) for number in numbers]):
                numbers.append(lowest(both))
        return sorted(numbers)

    def fewest(self, limit):
        """Return the fewest kinds, fewer than a limit, that no candidate explains together; None if there are none."""
        best = None
        for mask, rows in self._choices.items():
            if is_empty(common(mask, self._left)):
                pairs = useful(mask, self._plain)
                for many in range(limit - len(rows)):
                    found = covering(mask, pairs, many)
                    if found is not None:
                        best = [*rows, *found]
                        limit = len(best)
                        break
        return best


def question_of(case, candidates, weaving, whole):
    """Return the question which candidates of a mask explain a possible weaving."""
    masks = candidates.masks(case.outcomes(weaving))
    return Question(whole, case.all_names, case.all_kinds, masks)


def first_unexplained(case, candidates, weavings):
    """Return the first of these weavings with a database that no candidate explains; None if there is none."""
    for weaving in weavings:
        whole = candidates.whole(weaving)
        if question_of(case, candidates, weaving, whole).answers() is None:
            return weaving
    return None


def decided(case, candidates):
    """Return pairs (weaving, candidates that explain what can be in it), and None if all weavings are explained.

    Otherwise return in the place of None a weaving and a database that none explains, with as few rows as possible.
    """
    rows = []
    least = None
    limit = len(case.all_kinds) + 1
    for weaving in possible_weavings(case.mix):
        question = question_of(case, candidates, weaving, candidates.whole(weaving))
        numbers = question.answers()
        if numbers is not None:
            rows.append((weaving, tuple([candidates.things[number] for number in numbers])))
            continue
        found = question.fewest(limit)
        if found is not None:
            least = (weaving, tuple(found))
            limit = len(found)
    return rows, least
