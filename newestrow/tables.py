"""Tables: the columns that a row has, and the values that it can have in them."""

from newestrow.errors import BadTable
from newestrow.shapes import is_integer, is_tuple_of
from newestrow.texts import is_word

RESERVED = ("and", "or", "not", "true", "false", "name", "where", "nothing", "change")


def is_column(thing):
    """Tell whether any value is a column."""
    if not is_tuple_of(thing, 2):
        return False
    name, top = thing
    return is_word(name) and name not in RESERVED and is_integer(top) and 1 <= top <= 3


class Table:
    """One to three columns with different names."""

    def __init__(self, columns):
        if not 1 <= len(columns) <= 3:
            raise BadTable(-1)
        names = []
        for at, column in enumerate(columns):
            if not is_column(column) or column[0] in names:
                raise BadTable(at)
            names.append(column[0])
        self.columns = tuple(names)
        self.tops = tuple([top for _, top in columns])

    def all_values(self):
        """Return the values that a row can have, ascending."""
        found = [()]
        for top in self.tops:
            found = [(*values, value) for values in found for value in range(top + 1)]
        return found

    def __len__(self):
        return len(self.columns)

    def __contains__(self, thing):
        if not is_tuple_of(thing, len(self.tops)):
            return False
        return all([is_integer(value) and 0 <= value <= top for value, top in zip(thing, self.tops)])

    def __eq__(self, other):
        if not isinstance(other, Table):
            return False
        return self.columns == other.columns and self.tops == other.tops

    def __repr__(self):
        columns = [f"{name}={top}" for name, top in zip(self.columns, self.tops)]
        return f"Table({', '.join(columns)})"
