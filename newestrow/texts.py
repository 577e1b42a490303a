"""Tokens, words, numbers and sums: what conditions and statements are written with."""

LETTERS = "abcdefghijklmnopqrstuvwxyz"
DIGITS = "0123456789"
LONG_SIGNS = ("!=", "<=", ">=")


class WrongToken(ValueError):
    """No text can go on with the token at this position as it began."""

    def __init__(self, at):
        self.at = at


def is_word(thing):
    """Tell whether any value is a word."""
    return isinstance(thing, str) and 1 <= len(thing) <= 8 and all([letter in LETTERS for letter in thing])


def is_number(token):
    """Tell whether a token is a number: three digits at most, none of them a leading zero."""
    if not 1 <= len(token) <= 3 or (len(token) > 1 and token[0] == "0"):
        return False
    return all([digit in DIGITS for digit in token])


def split_tokens(text):
    """Return pairs (token, position), the last one an empty token at the end of the text.

    With that token a text that ends too early is an error like any other.
    """
    tokens = []
    at = 0
    while at < len(text):
        end = token_end(text, at)
        if text[at] != " ":
            tokens.append((text[at:end], at))
        at = end
    tokens.append(("", len(text)))
    return tokens


def token_end(text, at):
    """Return where the token that begins at a position ends.

    A space ends behind itself, and so does a character that begins no token.
    """
    for alphabet in (LETTERS, DIGITS):
        if text[at] in alphabet:
            return stretch_end(text, at, alphabet)
    if text[at:at + 2] in LONG_SIGNS:
        return at + 2
    return at + 1


def stretch_end(text, at, alphabet):
    """Return the first position from a given one on that has no character of the alphabet."""
    end = at
    while end < len(text) and text[end] in alphabet:
        end += 1
    return end


def joined_tokens(tokens):
    """Return the tokens with one space between two, as `str` shows them."""
    return " ".join([token for token, _ in tokens[:-1]])


def read_sum(tokens, at, columns):
    """Return the sum that begins at tokens[at], and the index of the token behind it.

    A sum is a list of pairs (factor, index of a column); a number has None for the index.
    """
    terms = [read_term(tokens[at], 1, columns)]
    end = at + 1
    while tokens[end][0] in ("+", "-"):
        factor = 1 if tokens[end][0] == "+" else -1
        terms.append(read_term(tokens[end + 1], factor, columns))
        end += 2
    return terms, end


def read_term(token, factor, columns):
    """Return the term that a token writes, as `read_sum` tells, times 1 or -1."""
    word, place = token
    if is_number(word):
        return factor * int(word), None
    if word in columns:
        return factor, columns.index(word)
    raise WrongToken(place)


def sum_value(terms, values):
    """Return the value of a sum for the values of the columns."""
    return sum([factor if index is None else factor * values[index] for factor, index in terms])
