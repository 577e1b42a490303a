"""The position that the error of a text tells that is no statement."""

import itertools
import random
import re
import unittest

from newestrow.errors import BadStatement, NewestrowError
from newestrow.statements import Statement
from newestrow.tables import Table
from building import ANY

ONE = Table([("a", 2)])
TWO = Table([("a", 2), ("b", 1)])
THREE = Table([("a", 2), ("b", 1), ("c", 3)])


def bad_at(text, table=TWO):
    """Return the position that BadStatement tells, or None if the text is a statement."""
    try:
        Statement(text, table)
    except BadStatement as wrong:
        return wrong.at
    return None


# An oracle of its own: texts of tokens with single spaces are reduced by replacing what is complete.

TERM = r"(?:a|b|0|[1-9][0-9]{0,2})"
SUM = rf"{TERM}(?: [+-] {TERM})*"


def is_condition(text):
    """Tell whether a text with single spaces, over the columns a and b, is a condition."""
    text = re.sub(r"\bname !?= [a-z]{1,8}(?= |$)", "T", text)
    text = re.sub(r"\b(true|false)\b", "T", text)
    text = re.sub(rf"(?:^|(?<= )){SUM} (?:=|!=|<|<=|>|>=) {SUM}(?= |$)", "T", text)
    before = None
    while before != text:
        before = text
        text = re.sub(r"\( T \)|not T|T (?:and|or) T", "T", text)
    return text == "T"


def is_behind(rest):
    """Tell whether a text is `[where C]`, with a space before it."""
    return rest == "" or (rest.startswith(" where ") and is_condition(rest[7:]))


def is_change(rest):
    """Tell whether a text is `SETS [where C]` over the columns a and b, with a space before it."""
    sets = re.match(rf" (?:a = {SUM}(?: , b = {SUM})?|b = {SUM}(?: , a = {SUM})?)(?= |$)", rest)
    return sets is not None and is_behind(rest[sets.end():])


def is_statement(text):
    """Tell whether a text with single spaces is a statement on TWO."""
    word, _, _ = text.partition(" ")
    rest = text[len(word):]
    if word in ("look", "share", "sole", "remove"):
        return is_behind(rest)
    if word == "change":
        return is_change(rest)
    if word == "put":
        head = re.match(r" [a-z]{1,8} \( [012] , [01] \)", rest)
        if head is None:
            return False
        rest = rest[head.end():]
        return rest in ("", " or nothing") or (rest.startswith(" or change") and is_change(rest[10:]))
    return text in ("mark", "back", "table")


CONDITION_ENDS = ["", "true", "= 1", "1", "1 = 1", "= k", "k", "where true", "where a = 1"]
SETS_ENDS = ["= 1", "1", "a = 1", "b = 1"]
PUT_ENDS = ["k ( 1 , 1 )", "( 1 , 1 )", "1 , 1 )", ", 1 )", "1 )", ")", "nothing", "or nothing", "change a = 1"]


def can_go_on(words):
    """Tell whether some statement begins with these words."""
    closing = [" )"] * max(0, words.count("(") - words.count(")"))
    begun = " ".join(words)
    for end in [*CONDITION_ENDS, *SETS_ENDS, *PUT_ENDS]:
        whole = f"{begun} {end}".strip()
        if is_statement(whole) or is_statement(whole + "".join(closing)):
            return True
    return False


def wanted_at(words):
    """Return the index of the first word with which no statement can go on, len(words) if it ends early, None if it is one."""
    if is_statement(" ".join(words)):
        return None
    for at in range(len(words)):
        if not can_go_on(words[:at + 1]):
            return at
    return len(words)


class PlacesTest(unittest.TestCase):
    def check(self, text, at, table=TWO):
        with self.subTest(text=text):
            self.assertEqual(bad_at(text, table), at)

    def check_at(self, text, table=TWO):
        """The wrong token stands behind a bar, which is taken away."""
        self.check(text.replace("|", ""), text.index("|"), table)

    def test_nothing(self):
        self.check("", 0)
        self.check(" ", 1)
        self.check("       ", 7)

    def test_ends_too_early(self):
        for text in (
            "change", "change a", "change a =", "change a = 1 +", "change a = 1 -", "change a = 1 ,", "change a = 1 , b",
            "change a = 1 , b =", "change b = a ,", "put", "put k", "put k (", "put k ( 1", "put k ( 1 ,", "put k ( 1 , 1",
            "put k ( 1 , 1 ) or", "put k ( 1 , 1 ) or change", "put k ( 1 , 1 ) or change a", "put k ( 1 , 1 ) or change a =",
            "put k ( 1 , 1 ) or change a = 1 ,", "put k ( 1 , 1 ) or change a = 1 where", "look where", "share where",
            "sole where", "remove where", "change a = 1 where", "look where a", "look where not", "look where (",
            "look where ( a = 1", "look where a = 1 and", "look where name", "look where name !=", "look where a +",
            "remove where a = 1 or ( not", "put k ( 1 , 1 ) or change a = 1 where b <", "change a = b where name =",
        ):
            for spaces in range(3):
                self.check(text + " " * spaces, len(text) + spaces)
                self.check(" " * spaces + text, len(text) + spaces)

    def test_the_first_word(self):
        for token in ("(", ")", ",", "+", "-", "=", "!=", "<", "<=", ">", ">=", "a", "1", "where", "or", "commit", "undo", "begin",
                      "session", "looks", "loo", "lookwhere", "tables", "puts", "true", "name", "nothing", "01", "LOOK", "Look"):
            self.check(token, 0)
            self.check("  " + token, 2)
            self.check(f"   {token} where a = 1", 3)

    def test_characters_that_begin_no_token(self):
        for sign in "!#$&*./:;?@[]^_`{|}~'\"\\AZ":
            self.check(sign, 0)
            self.check(f"look{sign}", 4)
            self.check(f"look {sign}", 5)
            self.check(f" look where {sign}a = 1", 12)
            self.check(f"look where a{sign} = 1", 12)
            self.check(f"change a {sign} 1", 9)
            self.check(f"put {sign} (1, 1)", 4)
            self.check(f"put k (1{sign} 1)", 8)
            self.check(f"mark{sign}", 4)
        self.check("look where a ! = 1", 13)
        self.check("change a := 1", 9)

    def test_behind_words_that_stand_alone(self):
        for word in ("mark", "back", "table"):
            for token in ("where", "a", "1", "(", "mark", "=", ",", "or", "look"):
                self.check_at(f"{word} |{token}")
                self.check_at(f"  {word}   |{token} true")

    def test_behind_words_with_where(self):
        for word in ("look", "share", "sole", "remove"):
            for token in ("a", "1", "(", ")", "look", "=", ",", "or", "and", "true", "name", "wher", "wheres", "set"):
                self.check_at(f"{word} |{token}")
                self.check_at(f" {word}  |{token} a = 1")

    def test_in_a_condition(self):
        for begin in ("look where", "share  where ", " sole where", "remove   where", "change a = 1 where", "change b = 1, a = b where",
                      "put k (1, 1) or change a = 1 where", "put k (1,1)or change a=1,b=0where"):
            self.check_at(f"{begin} |where a = 1")
            self.check_at(f"{begin} a = |= 1")
            self.check_at(f"{begin} a |where")
            self.check_at(f"{begin} a = 1 |b")
            self.check_at(f"{begin} a = 1 |, b = 1")
            self.check_at(f"{begin} a = 1 |where b = 1")
            self.check_at(f"{begin} a = 1 |)")
            self.check_at(f"{begin} ( a = 1 and |) b = 1")
            self.check_at(f"{begin} not |or true")
            self.check_at(f"{begin} name |< k")
            self.check_at(f"{begin} name = |1")
            self.check_at(f"{begin} name = |abcdefghi")
            self.check_at(f"{begin} |c = 1")
            self.check_at(f"{begin} a = |01")
            self.check_at(f"{begin} a = |1000")
            self.check_at(f"{begin} true or name != k and ( b - |true = 1 )")
            self.check(f"{begin} a = 1 and ", len(begin) + 11)

    def test_in_sets(self):
        for begin in ("change", "put k ( 1 , 1 ) or change", "  change", "put k (2,0)or   change"):
            for token in ("where", "1", "=", "c", "(", ",", "name", "true", "aa", "or", "change"):
                self.check_at(f"{begin} |{token} = 1")
                self.check_at(f"{begin} a = 1 , |{token} = 1")
                self.check_at(f"{begin} a = |{'d' if token == '1' else token}")
            for token in ("!=", "<", "<=", "1", "a", ",", "+", "where"):
                self.check_at(f"{begin} a |{token} 1")
                self.check_at(f"{begin} a = b , b |{token} 1")
            for token in ("1", "a", "b", "=", "(", ")", "and", "or", "true", "change", "<", "mark", "12"):
                self.check_at(f"{begin} a = 1 |{token}")
                self.check_at(f"{begin} b = 1 - a |{token}")
            for token in ("where", "c", "=", "-", "+", ",", "(", "name", "00", "01", "1000"):
                self.check_at(f"{begin} a = 1 + |{token}")
                self.check_at(f"{begin} a = 1 , b = a - |{token} where true")
            self.check_at(f"{begin} a = 1 , |where true")

    def test_a_column_that_is_set_twice(self):
        self.check_at("change a = 1 , |a = 1")
        self.check_at("change b = 1 , |b = 2 where a = 1")
        self.check_at("put k (1, 1) or change b = 1 , |b = 2")
        self.check_at("change a = 1 , b = 2 , |a = 1", THREE)
        self.check_at("change a = 1 , b = 2 , |b = 1", THREE)
        self.check_at("change c = 1 , |c", THREE)

    def test_a_comma_behind_sets_in_which_every_column_stands(self):
        self.check_at("change a = 1|,", ONE)
        self.check_at("change a = 1 |, a = 1", ONE)
        self.check_at("change a = 1 |, b = 1", ONE)
        self.check_at("change a = 1 |, where true", ONE)
        self.check_at("put k (1) or change a = a |, a = 1", ONE)
        self.check_at("change a = 1 , b = 1|,")
        self.check_at("change b = 1 , a = 1 |, b = 1")
        self.check_at("put k (1, 1) or change b = 1 , a = 1 |,")
        self.check_at("change c = 1 , b = 1 , a = 2 |,", THREE)
        self.check("change c = 1 , b = 1 ,", 22, THREE)

    def test_the_name_of_a_put(self):
        for token in ("(", "1", "abcdefghi", "K", "=", ")", ","):
            self.check_at(f"put |{token} ( 1 , 1 )")
            self.check_at(f"  put   |{token}")

    def test_the_brackets_of_a_put(self):
        for token in (")", "1", "a", "k", "=", ",", "or", "where"):
            self.check_at(f"put k |{token} 1 , 1 )")
        for token in ("(", ")", "a", "k", "-", "+", ",", "00", "01", "1000", "3", "9", "true"):
            self.check_at(f"put k ( |{token} , 1 )")
        for token in ("(", ")", "a", "k", "-", ",", "00", "01", "2", "12"):
            self.check_at(f"put k ( 1 , |{token} )")
        for token in ("(", ")", "1", "+", "-", "a", "or", "="):
            self.check_at(f"put k ( 1 |{token} 1 )")
        for token in ("(", "1", "+", "-", "a", "or", "=", ","):
            self.check_at(f"put k ( 1 , 1 |{token}")

    def test_numbers_that_are_no_values_of_the_column(self):
        for top in (1, 2, 3):
            table = Table([("a", top), ("b", 4 - top)])
            for number in range(12):
                self.check(f"put k ({number}, 0)", 7 if number > top else None, table)
                self.check(f"put k (0, {number})", 10 if number > 4 - top else None, table)

    def test_too_few_and_too_many_numbers(self):
        self.check_at("put k (|)", ONE)
        self.check_at("put k ( 1 |, 1 )", ONE)
        self.check_at("put k ( 1 |)")
        self.check_at("put k ( 1 |) or nothing")
        self.check_at("put k ( 1 , 1 |, 1 )")
        self.check_at("put k ( 1 , 1 |)", THREE)
        self.check_at("put k ( 1 , 1 , 1 |, 1 )", THREE)
        self.check_at("put k ( 1 , 1 , |)", THREE)

    def test_behind_a_put(self):
        for token in ("where", "change", "nothing", "and", ",", ")", "1", "look"):
            self.check_at(f"put k ( 1 , 1 ) |{token}")
            self.check_at(f"put k ( 1 , 1 ) |{token} a = 1")
        for token in ("where", "or", "look", "a", ",", "1", "remove", "put", "nothings"):
            self.check_at(f"put k ( 1 , 1 ) or |{token}")
        for token in ("where", "or", "nothing", "a", ",", "1"):
            self.check_at(f"put k ( 1 , 1 ) or nothing |{token}")

    def test_what_is_no_string(self):
        for thing in ANY:
            if not isinstance(thing, str):
                self.check(thing, -1)

    def test_the_error_is_one_of_the_package(self):
        with self.assertRaises(NewestrowError):
            Statement("look where", TWO)
        with self.assertRaises(ValueError):
            Statement(None, TWO)


class OracleTest(unittest.TestCase):
    """Texts of random tokens, compared with an oracle that reads them in another way."""

    WORDS = ["a", "b", "1", "0", "2", "+", "-", "=", "!=", "<", "(", ")", ",", "and", "or", "not", "true", "name", "k", "where",
             "change", "nothing", "look", "put", "mark", "01"]
    SEEDS = [
        "look where a = 1 and not ( b + 1 < 2 or name = k )", "share", "sole where name != k or true", "mark", "table", "back",
        "remove where ( ( a = 1 ) )", "change a = 1", "change b = a - 1 , a = b + b where a = 2", "change a = 1 , b = 0",
        "put k ( 2 , 1 )", "put k ( 0 , 0 ) or nothing", "put put ( 1 , 1 ) or change b = 1 , a = 0 where not name = k",
        "put k ( 1 , 0 ) or change a = a + 1",
    ]

    def check(self, words):
        wanted = wanted_at(words)
        text = " ".join(words)
        if wanted is not None:
            wanted = len(text) if wanted == len(words) else len("".join(word + " " for word in words[:wanted]))
        self.assertEqual(bad_at(text), wanted, text)

    def test_all_short_texts(self):
        for many in range(4):
            for words in itertools.product(["look", "change", "put", "mark", "where", "a", "k", "=", "1", "(", "true"], repeat=many):
                self.check(list(words))

    def test_statements_that_are_cut_and_changed(self):
        chance = random.Random(5)
        for seed in self.SEEDS:
            words = seed.split(" ")
            self.check(words)
            for at in range(len(words)):
                self.check(words[:at])
                self.check(words[:at] + words[at + 1:])
                for word in self.WORDS:
                    self.check(words[:at] + [word] + words[at + 1:])
                    self.check(words[:at] + [word] + words[at:])
            for _ in range(60):
                changed = list(words)
                for _ in range(chance.randrange(1, 4)):
                    changed[chance.randrange(len(changed))] = chance.choice(self.WORDS)
                self.check(changed)


if __name__ == "__main__":
    unittest.main()
