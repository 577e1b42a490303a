"""Databases: the rows that are there at the beginning, and the places that they have in a mix."""

from newestrow.errors import BadDatabase
from newestrow.shapes import is_tuple_of
from newestrow.texts import is_word

MOST_ROWS = 80


def is_row(thing, table):
    """Tell whether any value is a pair of a name, or None, and values of the table."""
    if not is_tuple_of(thing, 2):
        return False
    name, values = thing
    return (name is None or is_word(name)) and values in table


def wrong_entry(entries, table):
    """Return the index of the first of any values that is no row or repeats a name; None if there is none."""
    names = []
    for at, entry in enumerate(entries):
        if not is_row(entry, table):
            return at
        name = entry[0]
        if name in names:
            return at
        if name is not None:
            names.append(name)
    return None


def check_database(table, thing):
    """Raise BadDatabase if any value is no database over the table."""
    if not isinstance(thing, tuple) or len(thing) > MOST_ROWS:
        raise BadDatabase(-1)
    wrong = wrong_entry(thing, table)
    if wrong is not None:
        raise BadDatabase(wrong)


def is_database(table, thing):
    """Tell whether any value is a database over the table."""
    try:
        check_database(table, thing)
    except BadDatabase:
        return False
    return True


def place_names(database, names):
    """Return the name of each place, that of an entry also if it is none of these names, which are mentioned."""
    present = [name for name, _ in database]
    return present + [name for name in names if name not in present]


def place_kinds(database, names):
    """Return the kind of each place where these names are mentioned."""
    places = place_names(database, names)
    kinds = [(name if name in names else None, values) for name, values in database]
    return kinds + [(name, None) for name in places[len(database):]]
