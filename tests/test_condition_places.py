"""The position that the error of a text tells that is no condition."""

import re
import unittest

from newestrow.conditions import Condition
from newestrow.errors import BadCondition
from newestrow.tables import Table

TABLE = Table([("a", 2), ("b", 1), ("abcdefgh", 3)])
WORDS = ["(", ")", ",", "+", "<", "=", "true", "not", "and", "name", "a", "1"]


def bad_at(text, table=TABLE):
    """Return the position that BadCondition tells, or None if the text is a condition."""
    try:
        Condition(text, table)
    except BadCondition as wrong:
        return wrong.at
    return None


def is_condition(words):
    """Tell whether words from WORDS are a condition, by replacing what is one in them."""
    text = " ".join(words)
    text = re.sub(r"\bname = [a-z]+\b", "T", text)
    text = re.sub(r"\btrue\b", "T", text)
    text = re.sub(r"\b[a1]( \+ [a1])* [<=] [a1]( \+ [a1])*(?= |$)", "T", text)
    before = None
    while before != text:
        before = text
        text = re.sub(r"\( T \)|not T|T and T", "T", text)
    return text == "T"


def can_go_on(words):
    """Tell whether some condition begins with these words."""
    unclosed = max(0, words.count("(") - words.count(")"))
    ends = [[], ["true"], ["= 1"], ["1"], ["1 = 1"], ["= k"], ["k"]]
    return any(is_condition(words + end + [")"] * unclosed) for end in ends)


class PlacesTest(unittest.TestCase):
    def check(self, text, at):
        with self.subTest(text=text):
            self.assertEqual(bad_at(text), at)

    def check_at(self, text):
        """The wrong token stands behind a bar, which is taken away."""
        self.check(text.replace("|", ""), text.index("|"))

    def test_nothing(self):
        self.check("", 0)
        self.check(" ", 1)
        self.check("     ", 5)

    def test_ends_too_early(self):
        for text in (
            "a", "a +", "a + 1", "a + 1 -", "a + 1 - b", "a =", "a <", "a !=", "a <=", "a >=", "a >", "a = 1 +", "a = 1 -",
            "1", "999", "abcdefgh", "not", "not not", "not a", "not (", "(", "((", "( a", "( a =", "( a = 1", "((a=1)",
            "( a = 1 and", "( true or", "(true", "name", "name =", "name !=", "not name", "( name = k", "a = 1 and",
            "a = 1 or", "a = 1 and not", "true and", "false or", "name = k or", "a = 1 or (", "a = 1 or name", "a=1and",
            "( a = 1 ) and", "( a = 1 ) or (", "not(", "true or name !=",
        ):
            for spaces in range(3):
                self.check(text + " " * spaces, len(text) + spaces)
                self.check(" " * spaces + text, len(text) + spaces)

    def test_wrong_at_the_beginning(self):
        for token in (")", ",", "+", "-", "=", "!=", "<", "<=", ">", ">=", "and", "or", "where", "nothing", "change", "c",
                      "ab", "abcdefghi", "namek", "nota", "truea", "look", "table", "00", "01", "007", "1000", "0000",
                      "12345678901234567890"):
            self.check(token, 0)
            self.check("  " + token, 2)
            self.check(token + " = 1", 0)
            self.check_at(f"not |{token} = 1")
            self.check_at(f"(|{token} = 1")
            self.check_at(f"a = 1 and |{token} = 1")
            self.check_at(f"a = 1 or |{token} = 1")

    def test_wrong_behind_a_term(self):
        for token in ("(", ")", ",", "and", "or", "not", "true", "false", "name", "a", "b", "1", "where", "c", "00"):
            self.check_at(f"a |{token}")
            self.check_at(f"1 + b |{token} = 1")
            self.check_at(f"a = 1 or not ( b |{token}")
        self.check_at("(a|) = 1")
        self.check_at("1 |1 = 1")
        self.check_at("a |b")

    def test_wrong_behind_plus_or_minus(self):
        for token in ("(", ")", ",", "+", "-", "=", "!=", "<=", "and", "or", "not", "true", "false", "name", "where", "c",
                      "01", "1234"):
            self.check_at(f"a + |{token}")
            self.check_at(f"a = b - |{token} 1")
            self.check_at(f"a + 1 - |{token} = 1")

    def test_wrong_behind_a_sign(self):
        for sign in ("=", "!=", "<", "<=", ">", ">="):
            for token in ("(", ")", ",", "+", "-", "!=", "<", "<=", ">", ">=", "and", "or", "not", "true", "false", "name",
                          "where", "nothing", "c", "k", "01", "1000"):
                self.check_at(f"a {sign} |{token}")
                self.check_at(f"(1 {sign} |{token} = 1")

    def test_wrong_behind_an_atom(self):
        for atom in ("true", "false", "name = k", "name != a", "a = 1", "1 < b", "( true )", "not true", "a = b + 1"):
            for token in ("(", ")", ",", "not", "true", "false", "name", "a", "1", "where", "nothing", "change", "c",
                          "andy", "ore", "00"):
                self.check_at(f"{atom} |{token}")
                self.check_at(f"true and {atom} |{token} true")
                if token != ")":
                    self.check_at(f"( {atom} |{token}")
        for token in ("=", "!=", "<", "<=", ">", ">="):
            for atom in ("true", "false", "name = k", "a = 1", "(a = 1)"):
                self.check_at(f"{atom} |{token} 1")
        for token in ("+", "-"):
            for atom in ("true", "false", "name = k", "(a = 1)"):
                self.check_at(f"{atom} |{token} 1")

    def test_wrong_behind_name(self):
        for token in ("<", "<=", ">", ">=", "+", "-", "(", ")", ",", "k", "name", "and", "a", "1", "is"):
            self.check_at(f"name |{token} k")
        for sign in ("=", "!="):
            for token in ("1", "01", "(", ")", ",", "+", "-", "=", "!=", "<", "abcdefghi", "abcdefghijklmno"):
                self.check_at(f"name {sign} |{token}")
                self.check_at(f"not (name{sign}|{token})")
        self.check_at("1 = |name")
        self.check_at("a + |name = k")
        self.check("name = abcdefgh", None)

    def test_wrong_behind_and_or_and_not(self):
        for word in ("and", "or"):
            for token in (")", ",", "+", "=", "and", "or", "where", "c"):
                self.check_at(f"true {word} |{token} true")
        for token in (")", ",", "-", "<", "and", "or", "where", "c"):
            self.check_at(f"not |{token} true")

    def test_brackets(self):
        self.check_at("(|)")
        self.check_at("a = 1|)")
        self.check_at("(a = 1)|)")
        self.check_at("((a = 1))|)")
        self.check_at("(true) or true|)")
        self.check_at("(true |(true))")
        self.check_at("not (|)")
        self.check_at("(true or (false) and |)")
        self.check("((a = 1)", 8)
        self.check("(" * 20, 20)
        self.check("(" * 20 + "a=1" + ")" * 19, 42)
        self.check("(" * 19 + "a=1" + ")" * 20, 41)
        self.check("(" * 20 + "a=1" + ")" * 20, None)

    def test_signs_as_long_as_possible(self):
        self.check_at("a < |= 1")
        self.check_at("a =|< 1")
        self.check_at("a =|= 1")
        self.check_at("a =|> 1")
        self.check_at("a <|> 1")
        self.check_at("a <=|= 1")
        self.check_at("a <=|> 1")
        self.check_at("a =|!= 1")
        self.check_at("a !=|= 1")
        self.check_at("a = 1 |= 1")
        self.check_at("a = 1 |<= 1")
        self.check_at("a <|-1")
        self.check_at("a +|- 1 = 1")

    def test_letters_and_digits_as_long_as_possible(self):
        self.check_at("|aand b = 1")
        self.check_at("|nota = 1")
        self.check_at("true |andtrue")
        self.check_at("a = 1 |orb = 1")
        self.check_at("|namek = k")
        self.check_at("|abcdefgha = 1")
        self.check_at("a|1 = 1")
        self.check_at("1|a = 1")
        self.check_at("a = 12|a")
        self.check_at("a = 1 |2")
        self.check_at("a = |1234")
        self.check("a=1and b=1or true", None)

    def test_numbers(self):
        for number in ("0", "1", "10", "99", "100", "999"):
            self.check(f"{number} = a", None)
            self.check(f"a = {number}", None)
        for number in ("00", "01", "000", "001", "010", "0001", "1000", "9999", "00000", "12345"):
            self.check_at(f"|{number} = a")
            self.check_at(f"a = |{number}")
            self.check_at(f"a = 1 + |{number} and")
            self.check_at(f"not a - |{number}")

    def test_a_character_that_begins_no_token(self):
        for odd in "!A Z_.;:*/\\\"'#$&?@[]^`{|}~\n\t".replace(" ", "") + "\u00e9\u00b2\u0661\u0430":
            for before in ("", "a ", "a", "a =", "a = 1", "a = 1 ", "true and", "(", "(true) ", "name", "name =", "not ",
                           "1", "1 + "):
                with self.subTest(odd=odd, before=before):
                    self.assertEqual(bad_at(before + odd), len(before))
                    self.assertEqual(bad_at(before + odd + " = 1"), len(before))
                    if odd != "!":
                        self.assertEqual(bad_at(before + odd + "= 1"), len(before))
        self.check_at("a |! = 1")
        self.check_at("a |!")
        self.check_at("a = 1 |!")
        self.check_at("a |Z")
        self.check_at("name = |K")
        self.check_at("name = k|K")
        self.check_at("true|E")
        self.check_at("|tru E")

    def test_the_first_of_two_wrong_tokens(self):
        self.check_at("a = |c + 00")
        self.check_at("|! c")
        self.check_at("a |c ! )")
        self.check_at("true |true !")
        self.check_at("a = 1 |) and (")

    def test_a_wrong_token_at_the_end(self):
        self.check_at("a = 1 |an")
        self.check_at("a = 1 and |no")
        self.check_at("|tru")
        self.check_at("(true |o")
        self.check("a <", 3)

    def test_columns_are_those_of_the_table(self):
        self.assertEqual(bad_at("a = 1", Table([("b", 1)])), 0)
        self.assertEqual(bad_at("b = a", Table([("b", 1)])), 4)
        self.assertEqual(bad_at("put = 1 and table < look", Table([("put", 1), ("table", 1), ("look", 1)])), None)
        self.assertEqual(bad_at("true and x = 1", Table([("b", 1), ("y", 2)])), 9)

    def test_every_beginning(self):
        """All short rows of words: the first word with which no condition can go on, or the end."""
        table = Table([("a", 2)])
        beginnings = [[]]
        while beginnings:
            words = beginnings.pop()
            text = " ".join(words)
            self.assertEqual(bad_at(text, table), None if is_condition(words) else len(text), text)
            for word in WORDS:
                longer = f"{text} {word}" if words else word
                if not can_go_on(words + [word]):
                    wrong = len(longer) - len(word)
                    self.assertEqual(bad_at(longer, table), wrong, longer)
                    self.assertEqual(bad_at(longer + " ) 00", table), wrong, longer)
                elif len(words) < 5:
                    beginnings.append(words + [word])


class ErrorTest(unittest.TestCase):
    def test_the_position_is_an_integer(self):
        for text, at in (("a", 1), (")", 0), (None, -1)):
            with self.assertRaises(BadCondition) as context:
                Condition(text, TABLE)
            self.assertEqual(context.exception.at, at)
            self.assertIs(type(context.exception.at), int)


if __name__ == "__main__":
    unittest.main()
