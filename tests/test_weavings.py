"""Weavings: which ones there are, the positions of events, and what is no weaving."""

import itertools
import unittest

from newestrow.errors import BadWeaving
from newestrow.weavings import Weavings, check_possible, position_of
from building import ANY, mix_of

MIXES = [
    mix_of("a=1", "look / commit"),
    mix_of("a=1", "mark / commit"),
    mix_of("a=1", "look / commit", "look / commit"),
    mix_of("a=1", "mark / look / back / commit", "mark / undo"),
    mix_of("a=1", "look / commit / mark / table / look / undo", "look / look / commit"),
    mix_of("a=1", "mark / commit", "look / commit", "look / look / commit"),
    mix_of("a=1", "mark / commit", "mark / commit", "look / commit", "mark / undo / mark / commit"),
]


def many_events(mix):
    """Return how many events each session has."""
    return [sum(len(transaction) for transaction in session) for session in mix.sessions]


def all_weavings(mix):
    """Return all weavings, found by trying all permutations."""
    events = [number for number, many in enumerate(many_events(mix)) for _ in range(many)]
    return sorted(set(itertools.permutations(events)))


def wrong_at(call, mix, weaving):
    """Return what BadWeaving tells, None if it is not raised."""
    try:
        call(mix, weaving)
    except BadWeaving as wrong:
        return wrong.at
    return None


class WeavingsTest(unittest.TestCase):
    def test_all_of_them(self):
        for mix in MIXES:
            weavings = Weavings(mix)
            self.assertEqual(list(weavings.each()), all_weavings(mix))
            self.assertEqual(len(weavings), len(all_weavings(mix)))

    def test_twice_asked(self):
        weavings = Weavings(MIXES[4])
        first = list(weavings.each())
        first.clear()
        self.assertEqual(list(weavings.each()), all_weavings(MIXES[4]))
        pairs = zip(weavings.each(), weavings.each())
        self.assertTrue(all(one == other for one, other in pairs))

    def test_one_by_one(self):
        found = Weavings(mix_of("a=1", *["look / look / commit"] * 4)).each()
        self.assertEqual(next(found), (0, 0, 0, 1, 1, 1, 2, 2, 2, 3, 3, 3))
        self.assertEqual(next(found), (0, 0, 0, 1, 1, 1, 2, 2, 3, 2, 3, 3))

    def test_ascending_and_each_once(self):
        mix = mix_of("a=1", "look / look / commit", "look / look / look / commit", "look / commit / mark / undo")
        before = ()
        many = 0
        for weaving in Weavings(mix).each():
            self.assertGreater(weaving, before)
            self.assertIsInstance(weaving, tuple)
            before = weaving
            many += 1
        self.assertEqual(before, (2, 2, 2, 1, 1, 1, 1, 0, 0, 0))
        self.assertEqual(many, 4200)
        self.assertEqual(len(Weavings(mix)), 4200)

    def test_len(self):
        self.assertEqual(len(Weavings(MIXES[0])), 1)
        self.assertEqual(len(Weavings(mix_of("a=1", "look / look / look / look / look / commit",
                                             "look / look / look / look / look / commit"))), 924)
        self.assertEqual(len(Weavings(mix_of("a=1", *["look / look / commit"] * 4))), 369600)
        self.assertEqual(len(Weavings(mix=mix_of("a=1", *["look / look / look / commit"] * 3))), 34650)

    def test_contains_its_weavings(self):
        for mix in MIXES:
            weavings = Weavings(mix)
            for weaving in all_weavings(mix):
                self.assertIs(weaving in weavings, True)

    def test_contains_nothing_else(self):
        for mix in MIXES:
            weavings = Weavings(mix)
            known = all_weavings(mix)
            for many in range(len(mix) + 2):
                for thing in itertools.islice(itertools.product(range(-1, 4), repeat=many), 3000):
                    self.assertIs(thing in weavings, thing in known)
            for thing in [*ANY, *[list(weaving) for weaving in known], str(known[0]), known, tuple(known)]:
                if thing not in known:
                    self.assertIs(thing in weavings, False, thing)

    def test_truth_values_are_no_sessions(self):
        weavings = Weavings(MIXES[2])
        self.assertIs((0, 0, 1, 1) in weavings, True)
        for thing in ((0, 0, True, True), (0, 0, 1, True), (False, 0, 1, 1), (0, False, 1, 1)):
            self.assertIs(thing in weavings, False)


class PositionTest(unittest.TestCase):
    def test_positions(self):
        mix = mix_of("a=1", "look / commit / mark / table / look / undo", "look / mark / look / commit")
        self.assertEqual(position_of(mix, (0, 0, 0, 0, 0, 1, 1, 1)), {
            (0, 0, 0): 0, (0, 0, -1): 1, (0, 1, 1): 2, (0, 1, 2): 3, (0, 1, -1): 4, (1, 0, 0): 5, (1, 0, 2): 6, (1, 0, -1): 7})
        self.assertEqual(position_of(mix, (1, 0, 0, 1, 0, 0, 1, 0)), {
            (1, 0, 0): 0, (0, 0, 0): 1, (0, 0, -1): 2, (1, 0, 2): 3, (0, 1, 1): 4, (0, 1, 2): 5, (1, 0, -1): 6, (0, 1, -1): 7})

    def test_backs_have_positions_and_marks_have_none(self):
        mix = mix_of("a=1", "mark / look / mark / back / commit", "mark / commit")
        self.assertEqual(position_of(mix, (0, 1, 0, 0)), {(0, 0, 1): 0, (1, 0, -1): 1, (0, 0, 3): 2, (0, 0, -1): 3})

    def test_all_weavings(self):
        for mix in MIXES:
            for weaving in all_weavings(mix):
                positions = position_of(mix, weaving)
                self.assertEqual(sorted(positions.values()), list(range(len(mix))))
                for (session, _, _), position in positions.items():
                    self.assertEqual(weaving[position], session)
                for session in range(len(mix.sessions)):
                    own = [(event[1], event[2] if event[2] >= 0 else 9) for event in sorted(positions, key=positions.get)
                           if event[0] == session]
                    self.assertEqual(own, sorted(own))

    def test_by_name_and_new(self):
        mix = MIXES[2]
        found = position_of(weaving=(0, 1, 0, 1), mix=mix)
        found.clear()
        self.assertEqual(len(position_of(mix, (0, 1, 0, 1))), 4)


class BadWeavingTest(unittest.TestCase):
    CALLS = [position_of, check_possible]

    def check(self, mix, weaving, at):
        for call in self.CALLS:
            with self.subTest(call=call.__name__, weaving=weaving):
                self.assertEqual(wrong_at(call, mix, weaving), at)

    def test_no_tuple(self):
        for thing in [*ANY, [0, 0, 1, 1], "0011", 11]:
            if not isinstance(thing, tuple):
                self.check(MIXES[2], thing, -1)

    def test_right_ones(self):
        for weaving in all_weavings(MIXES[2]):
            self.check(MIXES[2], weaving, None)

    def test_no_session(self):
        for at in range(4):
            for thing in (2, -1, 4, 10 ** 29, True, False, None, "0", "", (), (0,), [0], [], "a", ((1,),)):
                weaving = [0, 1, 0, 1]
                weaving[at] = thing
                self.check(MIXES[2], tuple(weaving), at)

    def test_no_event_left(self):
        self.check(MIXES[2], (0, 0, 0, 1), 2)
        self.check(MIXES[2], (1, 1, 1, 1), 2)
        self.check(MIXES[2], (0, 1, 1, 1), 3)
        self.check(MIXES[3], (1, 1, 0, 0), 1)

    def test_too_long(self):
        self.check(MIXES[2], (0, 0, 1, 1, 0), 4)
        self.check(MIXES[2], (0, 0, 1, 1, 7, 7), 4)
        self.check(MIXES[0], (0, 0, 0), 2)

    def test_too_short(self):
        self.check(MIXES[2], (), 0)
        self.check(MIXES[2], (0,), 1)
        self.check(MIXES[2], (1, 1), 2)
        self.check(MIXES[2], (0, 1, 0), 3)

    def test_the_first_wrong_index(self):
        self.check(MIXES[2], (0, 5, True), 1)
        self.check(MIXES[2], (True, 5), 0)
        self.check(MIXES[2], (0, 0, 0, 9), 2)
        self.check(MIXES[2], (0, "x"), 1)


if __name__ == "__main__":
    unittest.main()
