"""Conditions on the values and the name of a row."""

from newestrow.errors import BadCondition
from newestrow.texts import WrongToken, is_word, joined_tokens, read_sum, split_tokens, sum_value

# The meaning of a condition is a dict from None, and from each name that it mentions, to an
# integer. The bits of the integer tell for which values of the table the condition holds; the
# lowest bit is for the first of all values. None stands for a row without a name and for every
# name that is not mentioned: no condition can tell these apart. So two conditions are equal if
# their meanings agree for the names that either mentions and for None, however they are written.

SIGNS = ("=", "!=", "<", "<=", ">", ">=")


def bits_for(meaning, name):
    """Return the bits of a meaning for a name or None."""
    return meaning.get(name, meaning[None])


def every_bit(table):
    """Return the bits that stand for all values of the table."""
    return (1 << len(table.all_values())) - 1


def both(one, other):
    """Return the meaning of `one and other`."""
    return {name: bits_for(one, name) & bits_for(other, name) for name in [*one, *other]}


def either(one, other):
    """Return the meaning of `one or other`."""
    return {name: bits_for(one, name) | bits_for(other, name) for name in [*one, *other]}


def opposite(meaning, every):
    """Return the meaning of `not`; every is the bits of all values."""
    return {name: every ^ bits for name, bits in meaning.items()}


def compares(one, sign, other):
    """Tell whether two integers compare as the sign says."""
    if sign == "=":
        return one == other
    if sign == "!=":
        return one != other
    if sign == "<":
        return one < other
    if sign == "<=":
        return one <= other
    if sign == ">":
        return one > other
    return one >= other


def read_comparison(tokens, at, table):
    """Return the meaning of sum, sign, sum from tokens[at] on, and the index of the token behind it."""
    left, sign_at = read_sum(tokens, at, table.columns)
    sign, place = tokens[sign_at]
    if sign not in SIGNS:
        raise WrongToken(place)
    right, end = read_sum(tokens, sign_at + 1, table.columns)
    bits = [
        1 << bit
        for bit, values in enumerate(table.all_values())
        if compares(sum_value(left, values), sign, sum_value(right, values))
    ]
    return {None: sum(bits)}, end


def read_name(tokens, at, every):
    """Return the meaning of what stands behind `name`, a sign and a word, and the index of the token behind it."""
    sign, place = tokens[at]
    if sign not in ("=", "!="):
        raise WrongToken(place)
    name, place = tokens[at + 1]
    if not is_word(name):
        raise WrongToken(place)
    if sign == "=":
        return {None: 0, name: every}, at + 2
    return {None: every, name: 0}, at + 2


def read_plain(tokens, at, table, every):
    """Return the meaning of an atom without `not` and brackets, and the index of the token behind it."""
    word = tokens[at][0]
    if word == "true":
        return {None: every}, at + 1
    if word == "false":
        return {None: 0}, at + 1
    if word == "name":
        return read_name(tokens, at + 1, every)
    return read_comparison(tokens, at, table)


def with_atom(level, meaning, every):
    """Return the level (see `read_condition`) behind one more atom."""
    parts, atoms, negated = level
    if negated:
        return parts, both(atoms, opposite(meaning, every)), False
    return parts, both(atoms, meaning), False


def whole_level(level):
    """Return the meaning of all that stands in a level (see `read_condition`)."""
    parts, atoms, _ = level
    return either(parts, atoms)


def read_condition(tokens, table):
    """Return the meaning of the condition that the tokens write; raise WrongToken if they write none.

    A level is what stands to the left within the same brackets: the meaning of the parts that are
    closed by an `or`, that of the atoms of the part after them, and whether the next atom is
    negated. The levels outside of it wait on a stack, so no depth of brackets needs recursion.
    """
    every = every_bit(table)
    empty = ({None: 0}, {None: every}, False)
    outer = []
    level = empty
    at = 0
    while True:
        if tokens[at][0] == "not":
            level = (level[0], level[1], not level[2])
        elif tokens[at][0] == "(":
            outer.append(level)
            level = empty
        else:
            meaning, at = read_plain(tokens, at, table, every)
            level = with_atom(level, meaning, every)
            while outer and tokens[at][0] == ")":
                level = with_atom(outer.pop(), whole_level(level), every)
                at += 1
            if tokens[at][0] == "or":
                level = (whole_level(level), {None: every}, False)
            elif tokens[at][0] != "and":
                break
        at += 1
    word, place = tokens[at]
    if outer or word != "":
        raise WrongToken(place)
    return whole_level(level)


def put_together(text, table, meaning):
    """Return a condition with this text and meaning, without reading a text that may be long and deep."""
    made = Condition("true", table)
    made._text = text
    made._meaning = meaning
    return made


class Condition:
    """A condition on rows of a table; call it with values and a name."""

    def __init__(self, text, table):
        if not isinstance(text, str):
            raise BadCondition(-1)
        tokens = split_tokens(text)
        try:
            self._meaning = read_condition(tokens, table)
        except WrongToken as wrong:
            raise BadCondition(wrong.at) from None
        self._text = joined_tokens(tokens)
        self._table = table
        self._bits = {values: bit for bit, values in enumerate(table.all_values())}

    def __call__(self, values, name=None):
        return (bits_for(self._meaning, name) >> self._bits[values]) & 1 == 1

    def names(self):
        """Return the words that the condition mentions as names, ascending."""
        return sorted([name for name in self._meaning if name is not None])

    def __eq__(self, other):
        if not isinstance(other, Condition) or self._table != other._table:
            return False
        names = [*self._meaning, *other._meaning]
        return all([bits_for(self._meaning, name) == bits_for(other._meaning, name) for name in names])

    def __and__(self, other):
        return put_together(f"( {self} ) and ( {other} )", self._table, both(self._meaning, other._meaning))

    def __or__(self, other):
        return put_together(f"( {self} ) or ( {other} )", self._table, either(self._meaning, other._meaning))

    def __invert__(self):
        return put_together(f"not ( {self} )", self._table, opposite(self._meaning, every_bit(self._table)))

    def __str__(self):
        return f"{self._text}"

    def __repr__(self):
        return f"Condition({self._text})"
