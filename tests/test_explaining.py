"""Questions which candidates explain rows, with drawn masks, compared with a search through all choices and rows."""

import itertools
import random
import unittest

from newestrow.explaining import Question, covering, useful
from newestrow.masks import common, has_number, is_empty, lowest, mask_of

# Numbers of candidates on both sides of what one integer of a mask has room for.
NUMBERS = [0, 1, 500, 511, 512, 1023, 1024, 1300]
BOUND = 1301


def spread(bits):
    """Return the mask of those numbers that an integer tells."""
    return mask_of([number for at, number in enumerate(NUMBERS) if bits >> at & 1], BOUND)


def numbers_of(bits):
    return {number for at, number in enumerate(NUMBERS) if bits >> at & 1}


class Drawn:
    """Kinds with drawn masks, and what a search says of them."""

    def __init__(self, chance):
        self.many = chance.randrange(1, 9)
        self.whole = chance.choice([(1 << self.many) - 1, chance.randrange(1 << self.many)])
        self.names = ["j", "k"][:chance.randrange(3)]
        plain = [(None, (at,)) for at in range(chance.randrange(5))]
        named = [(name, values) for name in self.names for values in [None, *[(at,) for at in range(chance.randrange(1, 4))]]]
        self.kinds = plain + named
        self.masks = [None if chance.random() < 0.1 else self.mask(chance) for _ in self.kinds]

    def mask(self, chance):
        """Return a mask with most of the bits."""
        return sum(1 << number for number in range(self.many) if chance.random() < chance.choice([0.5, 0.8, 0.95]))

    def free(self, name):
        return [(kind, mask) for kind, mask in zip(self.kinds, self.masks) if kind[0] == name and mask is not None]

    def common(self, pairs):
        found = self.whole
        for _, mask in pairs:
            found &= mask
        return found

    def choices(self):
        return list(itertools.product(*[self.free(name) for name in self.names]))

    def fewest(self):
        """Return the fewest rows that no candidate explains together, None if there are no such rows."""
        best = None
        for choice in self.choices():
            rows = sum(kind[1] is not None for kind, _ in choice)
            for many in range(len(self.free(None)) + 1):
                for pairs in itertools.combinations(self.free(None), many):
                    if self.common([*choice, *pairs]) == 0 and (best is None or rows + many < best):
                        best = rows + many
        return best


class QuestionTest(unittest.TestCase):
    def test_drawn_questions(self):
        chance = random.Random(27)
        counts = {}
        for _ in range(3000):
            drawn = Drawn(chance)
            masks = [None if mask is None else spread(mask) for mask in drawn.masks]
            question = Question(spread(drawn.whole), drawn.names, drawn.kinds, masks)
            numbers, fewest = question.answers(), drawn.fewest()
            counts[fewest] = counts.get(fewest, 0) + 1
            self.assertEqual(numbers is None, fewest is not None)
            if fewest is None:
                self.assertIsNone(question.fewest(len(drawn.kinds) + 1))
                self.check_answers(drawn, numbers)
            else:
                self.check_fewest(drawn, question, fewest)
        self.assertTrue(all(counts[many] > 10 for many in (None, 0, 1, 2, 3)), counts)

    def check_answers(self, drawn, numbers):
        self.assertEqual(numbers, sorted(set(numbers)))
        for choice in drawn.choices():
            self.assertTrue(numbers_of(drawn.common([*choice, *drawn.free(None)])) & set(numbers))

    def check_fewest(self, drawn, question, fewest):
        for limit in range(fewest, len(drawn.kinds) + 2):
            rows = question.fewest(limit)
            if limit == fewest:
                self.assertIsNone(rows)
                continue
            self.assertEqual(len(rows), fewest)
            self.assertTrue(all(kind[1] is not None for kind in rows))
            masks = dict(zip(drawn.kinds, drawn.masks))
            names = [name for name, _ in rows if name is not None]
            self.assertEqual(len(names), len(set(names)))
            absent = [[pair for pair in drawn.free(name) if pair[0][1] is None] for name in drawn.names if name not in names]
            pairs = [(kind, masks[kind]) for kind in rows]
            self.assertNotIn(None, [mask for _, mask in pairs])
            self.assertTrue(all(absent))
            self.assertEqual(drawn.common([*pairs, *[options[0] for options in absent]]), 0)


class CoverTest(unittest.TestCase):
    def test_many_kinds_are_needed(self):
        plain = {spread(0b11111 ^ (1 << at)): (None, (at,)) for at in range(5)}
        pairs = useful(spread(0b11111), plain)
        self.assertEqual(len(pairs), 5)
        self.assertIsNone(covering(spread(0b11111), pairs, 4))
        self.assertEqual(sorted(covering(spread(0b11111), pairs, 5)), [(None, (at,)) for at in range(5)])
        self.assertEqual(covering(spread(0), pairs, 0), [])

    def test_kinds_that_leave_more_than_others_are_left_out(self):
        plain = {spread(bits): kind for bits, kind in ((0b0111, "a"), (0b0011, "b"), (0b1011, "c"), (0b1100, "d"), (0b1111, "e"))}
        self.assertEqual(sorted(kind for _, kind in useful(spread(0b1111), plain)), ["b", "d"])
        self.assertEqual(sorted(kind for _, kind in useful(spread(0b1100), plain)), ["b"])


class MaskTest(unittest.TestCase):
    def test_numbers(self):
        for one in range(256):
            mask = spread(one)
            self.assertEqual({number for number in range(BOUND) if has_number(mask, number)}, numbers_of(one))
            self.assertEqual(is_empty(mask), one == 0)
            if one:
                self.assertEqual(lowest(mask), min(numbers_of(one)))
            for other in (0, 1, 90, 165, 255):
                self.assertEqual(common(mask, spread(other)), spread(one & other))

    def test_no_integer_is_large(self):
        mask = mask_of(list(range(10000)), 10000)
        self.assertLess(max(mask), 10 ** 900)
        self.assertTrue(all(has_number(mask, number) for number in range(10000)))
        self.assertFalse(is_empty(mask))
        self.assertTrue(is_empty(mask_of([], 10000)))
        self.assertEqual(lowest(mask_of([9999], 10000)), 9999)


if __name__ == "__main__":
    unittest.main()
