"""Looks certificates over: whether any value shows what a verdict or a standing has to show."""

from newestrow.databases import is_database, place_kinds
from newestrow.explaining import question_of
from newestrow.judging import by_orders
from newestrow.masks import common, has_number, is_empty
from newestrow.replacing import by_weavings
from newestrow.shapes import is_integers, is_tuple_of
from newestrow.weavings import Weavings, is_possible, possible_weavings


def explains_one(case, candidates, weaving, row):
    """Tell whether any value is a pair of this weaving and enough candidates that explain what can be in it."""
    if not is_tuple_of(row, 2) or not is_integers(row[0]) or row[0] != weaving or not isinstance(row[1], tuple):
        return False
    whole = candidates.whole(weaving)
    numbers = [candidates.number_of(thing) for thing in row[1]]
    if not all([number is not None and has_number(whole, number) for number in numbers]):
        return False
    return question_of(case, candidates, weaving, candidates.mask(numbers)).answers() is not None


def explains_all(case, candidates, rows):
    """Tell whether any value has such a pair for each possible weaving, in ascending order."""
    weavings = list(possible_weavings(case.mix))
    if not is_tuple_of(rows, len(weavings)):
        return False
    for weaving, row in zip(weavings, rows):
        if not explains_one(case, candidates, weaving, row):
            return False
    return True


def refutes(case, candidates, weaving, database):
    """Tell whether any values are a possible weaving, and a database in it that no candidate explains."""
    weavings = Weavings(case.mix)
    if weaving not in weavings or not is_possible(case.mix, weaving) or not is_database(case.mix.table, database):
        return False
    masks = candidates.masks(case.outcomes(weaving))
    rest = candidates.whole(weaving)
    for kind in place_kinds(database, case.all_names):
        mask = masks[case.all_kinds.index(kind)]
        if mask is None:
            return False
        rest = common(rest, mask)
    return is_empty(rest)


def shows(case, candidates, thing, words):
    """Tell whether any value is a certificate; words are what it begins with if all is explained, and if not."""
    if is_tuple_of(thing, 2) and thing[0] == words[0]:
        return explains_all(case, candidates, thing[1])
    if is_tuple_of(thing, 3) and thing[0] == words[1]:
        return refutes(case, candidates, thing[1], thing[2])
    return False


def is_certificate(mix, thing, *, by="transactions", returns=True):
    """Tell whether any value is a certificate of a verdict on a mix."""
    case, candidates = by_orders(mix, by, returns)
    return shows(case, candidates, thing, ("safe", "unsafe"))


def is_standing(one, other, thing, *, company=None, returns=True, strict=False):
    """Tell whether any value is a certificate of what `stands_for` tells; its database may have more rows."""
    case, candidates = by_weavings(one, other, company, returns, strict)
    return shows(case, candidates, thing, ("stands", "fails"))
