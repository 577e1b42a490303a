"""Statements: how they are written, and what they do to the values of a row."""

from newestrow.conditions import Condition
from newestrow.errors import BadCondition, BadStatement
from newestrow.texts import WrongToken, is_number, is_word, joined_tokens, read_sum, split_tokens, sum_value

MODES = {"share": "share", "sole": "sole", "change": "sole", "remove": "sole", "put": "sole"}


def expect(tokens, at, word):
    """Raise WrongToken if tokens[at] is not this one; an empty word stands for the end of the text."""
    token, place = tokens[at]
    if token != word:
        raise WrongToken(place)


def read_where(text, tokens, at, table):
    """Return the condition behind the `where` at tokens[at], or `true` if the text ends there."""
    if tokens[at][0] == "":
        return Condition("true", table)
    expect(tokens, at, "where")
    begin = tokens[at + 1][1]
    try:
        return Condition(text[begin:], table)
    except BadCondition as wrong:
        raise WrongToken(begin + wrong.at) from None


def read_sets(tokens, at, columns):
    """Return the SETS from tokens[at] on, as pairs (index of a column, sum), and the index of the token behind them."""
    sets = []
    unset = list(columns)
    while True:
        column, place = tokens[at]
        if column not in unset:
            raise WrongToken(place)
        unset.remove(column)
        expect(tokens, at + 1, "=")
        terms, at = read_sum(tokens, at + 2, columns)
        sets.append((columns.index(column), terms))
        # No column is left for a comma then, so that is for the caller to find wrong.
        if tokens[at][0] != "," or not unset:
            return sets, at
        at += 1


def read_change(text, tokens, at, table):
    """Return the SETS and the condition of `SETS [where C]` from tokens[at] to the end of the text."""
    sets, end = read_sets(tokens, at, table.columns)
    return sets, read_where(text, tokens, end, table)


def read_inserted(tokens, at, tops):
    """Return the values in brackets from tokens[at] on, and the index of the token behind them."""
    values = []
    for top in tops:
        expect(tokens, at, "," if values else "(")
        number, place = tokens[at + 1]
        if not is_number(number) or int(number) > top:
            raise WrongToken(place)
        values.append(int(number))
        at += 2
    expect(tokens, at, ")")
    return tuple(values), at + 1


def read_put(text, tokens, table):
    """Return what `read_statement` returns, of a `put`."""
    name, place = tokens[1]
    if not is_word(name):
        raise WrongToken(place)
    inserted, at = read_inserted(tokens, 2, table.tops)
    if tokens[at][0] == "":
        return name, inserted, [], None
    expect(tokens, at, "or")
    if tokens[at + 1][0] == "change":
        sets, condition = read_change(text, tokens, at + 2, table)
        return name, inserted, sets, condition
    expect(tokens, at + 1, "nothing")
    expect(tokens, at + 2, "")
    return name, inserted, [], None


def read_statement(text, tokens, table):
    """Return the name, the inserted values, the SETS and the condition of the statement that the tokens write.

    Raise WrongToken if they write none. What the statement does not have is None, or [] for SETS.
    """
    word, place = tokens[0]
    if word == "put":
        return read_put(text, tokens, table)
    if word == "change":
        sets, condition = read_change(text, tokens, 1, table)
        return None, None, sets, condition
    if word in ("look", "share", "sole", "remove"):
        return None, None, [], read_where(text, tokens, 1, table)
    if word not in ("mark", "back", "table"):
        raise WrongToken(place)
    expect(tokens, 1, "")
    return None, None, [], None


class Statement:
    """A statement on the rows of a table."""

    def __init__(self, text, table):
        if not isinstance(text, str):
            raise BadStatement(-1)
        tokens = split_tokens(text)
        try:
            name, inserted, sets, condition = read_statement(text, tokens, table)
        except WrongToken as wrong:
            raise BadStatement(wrong.at) from None
        self.table = table
        self.word = tokens[0][0]
        self.mode = MODES.get(self.word)
        self.name = name
        self.inserted = inserted
        self.condition = condition
        self._sets = sets
        self._text = joined_tokens(tokens)

    def new_values(self, values):
        """Return what SETS make of values; without SETS these stay as they are."""
        found = list(values)
        for index, terms in self._sets:
            found[index] = max(0, min(sum_value(terms, values), self.table.tops[index]))
        return tuple(found)

    def names(self):
        """Return the names that the statement mentions, ascending."""
        found = [] if self.condition is None else self.condition.names()
        if self.name is not None:
            found.append(self.name)
        return sorted(set(found))

    def __eq__(self, other):
        if not isinstance(other, Statement):
            return False
        return self.table == other.table and self._text == other._text

    def __str__(self):
        return f"{self._text}"
