"""Results of databases in weavings and in orders."""

import unittest

from newestrow.errors import BadDatabase, BadOrder, BadWeaving, Bars, NotPossible
from newestrow.mixes import Mix
from newestrow.results import Result, result, serial_result
from newestrow.weavings import Weavings, orders
from newestrow.ways import way
from building import ANY, mix_of

EXAMPLE = mix_of("a=2", "change a = a + 1 where a = 0 / commit", "change a = 0 where a = 1 / commit")
NAMES = mix_of("a=2", "put k (1) / look / commit", "remove where name = j / share where a > 0 / commit")


class ResultTest(unittest.TestCase):
    def test_example_of_the_document(self):
        found = result(EXAMPLE, (0, 1, 0, 1), ((None, (0,)), (None, (1,))))
        self.assertIsInstance(found, Result)
        self.assertEqual(found.rows, ((None, (1,)), (None, (0,))))
        self.assertEqual(found.returned, {(0, 0, 0): ((0, (1,)),), (1, 0, 0): ((1, (0,)),)})

    def test_no_rows(self):
        found = result(EXAMPLE, (0, 0, 1, 1), ())
        self.assertEqual(found.rows, ())
        self.assertEqual(found.returned, {(0, 0, 0): (), (1, 0, 0): ()})
        found = serial_result(EXAMPLE, ((0, 0), (1, 0)), ())
        self.assertEqual((found.rows, found.returned), ((), {(0, 0, 0): (), (1, 0, 0): ()}))

    def test_places_of_names_without_a_row(self):
        found = result(NAMES, (0, 0, 0, 1, 1, 1), ())
        self.assertEqual(found.rows, (("j", None), ("k", (1,))))
        self.assertEqual(found.returned, {(0, 0, 0): ((1, (1,)),), (0, 0, 1): ((1, (1,)),), (1, 0, 0): (), (1, 0, 1): ((1, (1,)),)})

    def test_places_of_entries_come_first(self):
        database = (("k", (2,)), (None, (0,)), ("zz", (1,)), ("j", (0,)))
        found = result(NAMES, (0, 0, 0, 1, 1, 1), database)
        self.assertEqual(found.rows, (("k", (2,)), (None, (0,)), ("zz", (1,)), ("j", None)))
        self.assertEqual(found.returned[(0, 0, 0)], ())
        self.assertEqual(found.returned[(0, 0, 1)], ((0, (2,)), (1, (0,)), (2, (1,)), (3, (0,))))
        self.assertEqual(found.returned[(1, 0, 0)], ((3, (0,)),))
        self.assertEqual(found.returned[(1, 0, 1)], ((0, (2,)), (2, (1,))))
        found = result(NAMES, (0, 0, 0, 1, 1, 1), (("j", (0,)),))
        self.assertEqual(found.rows, (("j", None), ("k", (1,))))
        self.assertEqual(found.returned[(0, 0, 1)], ((0, (0,)), (1, (1,))))

    def test_a_name_that_the_mix_does_not_mention_is_no_name(self):
        mix = mix_of("a=1", "look where name != k / look where name = k / commit")
        found = result(mix, (0, 0, 0), (("other", (0,)), (None, (1,)), ("k", (1,))))
        self.assertEqual(found.rows, (("other", (0,)), (None, (1,)), ("k", (1,))))
        self.assertEqual(found.returned, {(0, 0, 0): ((0, (0,)), (1, (1,))), (0, 0, 1): ((2, (1,)),)})

    def test_equal_rows_go_one_way(self):
        database = ((None, (0,)),) * 3 + ((None, (1,)),) + ((None, (0,)),)
        found = result(EXAMPLE, (0, 1, 0, 1), database)
        self.assertEqual(found.rows, ((None, (1,)),) * 3 + ((None, (0,)),) + ((None, (1,)),))
        self.assertEqual(found.returned, {(0, 0, 0): tuple((place, (1,)) for place in (0, 1, 2, 4)), (1, 0, 0): ((3, (0,)),)})

    def test_only_units_return(self):
        mix = mix_of("a=1", "mark / look / back / look / commit / look / undo", "table / look / undo")
        found = result(mix, (0, 0, 0, 0, 0, 0, 1, 1, 1), ((None, (1,)),))
        self.assertEqual(found.returned, {(0, 0, 3): ((0, (1,)),)})

    def test_bars_tells_the_first_place(self):
        mix = mix_of("a=2", "change a = 1 where a = 0 / commit", "change a = 2 where a = 0 / change a = 0 where a = 1 / commit")
        weaving = (1, 0, 1, 0, 1)
        for database, place in (
            (((None, (0,)),), 0), (((None, (2,)), (None, (0,))), 1), (((None, (2,)), ("zz", (0,)), (None, (0,))), 1),
        ):
            with self.assertRaises(Bars) as caught:
                result(mix, weaving, database)
            with self.assertRaises(Bars) as wanted:
                way(mix, weaving, (None, (0,)))
            told = (caught.exception.place, caught.exception.first, caught.exception.second)
            self.assertEqual(told, (place, wanted.exception.first, wanted.exception.second))
        result(mix, weaving, ((None, (2,)), (None, (1,))))

    def test_a_name_without_a_row_can_bar(self):
        mix = mix_of("a=2", "put k (0) / commit", "put k (1) / look / commit")
        for database, place in (((), 0), (((None, (0,)), (None, (0,))), 2)):
            with self.assertRaises(Bars) as caught:
                result(mix, (0, 1, 1, 0, 1), database)
            self.assertEqual((caught.exception.place, caught.exception.first, caught.exception.second), (place, 0, 1))

    def test_each_place_goes_its_way(self):
        mix = mix_of("a=2", "change a = a + 1 where a < 2 / look where name = k / commit",
                     "begin repeatable / look where a = 1 / put k (0) or change a = 2 where a = 1 / commit")
        kinds = mix.kinds()
        for weaving in Weavings(mix).each():
            ways = {}
            for kind in kinds:
                try:
                    ways[kind] = way(mix, weaving, kind)
                except Bars:
                    pass
            named = [kind for kind in ways if kind[0] == "k"]
            for kind in named:
                database = [kind for kind in ways if kind[0] is None] * 2
                chosen = [*database, kind]
                if kind[1] is not None:
                    database.insert(1, kind)
                    chosen = database
                found = result(mix, weaving, tuple(database))
                self.assertEqual(found.rows, tuple((kind[0], ways[kind].end) for kind in chosen))
                for unit in mix.units():
                    wanted = [(place, ways[kind].returned[unit]) for place, kind in enumerate(chosen)]
                    self.assertEqual(found.returned[unit], tuple(pair for pair in wanted if pair[1] is not None))

    def test_many_entries(self):
        database = ((None, (0,)),) * 80
        self.assertEqual(result(EXAMPLE, (0, 0, 1, 1), database).rows, ((None, (0,)),) * 80)
        self.assertEqual(serial_result(EXAMPLE, ((1, 0), (0, 0)), database).rows, ((None, (1,)),) * 80)
        for call in (lambda: result(EXAMPLE, (0, 0, 1, 1), database + ((None, (0,)),)),
                     lambda: serial_result(EXAMPLE, ((1, 0), (0, 0)), database + ("wrong",))):
            with self.assertRaises(BadDatabase) as caught:
                call()
            self.assertEqual(caught.exception.at, -1)


class WrongDatabaseTest(unittest.TestCase):
    def check(self, database, at):
        for call in (lambda: result(EXAMPLE, (0, 0, 1, 1), database), lambda: serial_result(EXAMPLE, ((0, 0), (1, 0)), database)):
            with self.subTest(database=database), self.assertRaises(BadDatabase) as caught:
                call()
            self.assertEqual(caught.exception.at, at)

    def test_no_tuple(self):
        for thing in ANY:
            if not isinstance(thing, tuple):
                self.check(thing, -1)
        self.check([(None, (0,))], -1)

    def test_entries_of_any_kind(self):
        good = (None, (0,))
        for thing in ANY:
            self.check((thing,), 0)
            self.check((good, ("k", (1,)), thing, thing), 2)
            if thing not in EXAMPLE.table:
                self.check((good, (None, thing)), 1)
        for entry in (
            [None, (0,)], (None, [0]), (None, (3,)), (None, (-1,)), (None, (True,)), (None, (False,)), (None, (0, 0)), (None, ()),
            (None, None), ("k", None), (0, (0,)), (False, (0,)), ("", (0,)), ("K", (0,)), ("k ", (0,)), ("k1", (0,)),
            ("abcdefghi", (0,)), (None, (0,), ()), (None,), ((0,), None), (("k",), (0,)), (None, ("0",)), (None, (None,)),
        ):
            self.check((good, good, entry), 2)

    def test_words_that_columns_cannot_be_are_names(self):
        for name in ("a", "where", "not", "name", "change", "abcdefgh"):
            self.assertEqual(result(EXAMPLE, (0, 0, 1, 1), ((name, (0,)),)).rows, ((name, (0,)),))

    def test_one_name_twice(self):
        self.check((("k", (0,)), (None, (0,)), ("j", (0,)), ("k", (1,)), ("j", (0,))), 3)
        self.check((("k", (0,)), ("k", (0,))), 1)
        result(EXAMPLE, (0, 0, 1, 1), ((None, (0,)), (None, (0,))))

    def test_errors_in_their_order(self):
        mix = mix_of("a=1", "table / change a = 0 / commit", "sole / commit")
        bad, barred = ((None, (9,)),), ((None, (0,)),)
        with self.assertRaises(BadWeaving) as caught:
            result(mix, (0, 0, 0, 1), bad)
        self.assertEqual(caught.exception.at, 4)
        with self.assertRaises(NotPossible) as caught:
            result(mix, (0, 1, 0, 0, 1), bad)
        self.assertEqual(caught.exception.at, 1)
        mix = mix_of("a=1", "sole / look / commit", "sole / look / commit")
        with self.assertRaises(BadDatabase) as caught:
            result(mix, (0, 1, 0, 1, 0, 1), barred + bad)
        self.assertEqual(caught.exception.at, 1)
        with self.assertRaises(Bars):
            result(mix, (0, 1, 0, 1, 0, 1), barred)
        with self.assertRaises(BadOrder):
            serial_result(mix, ((0, 0),), bad)

    def test_wrong_weavings(self):
        for thing in ANY:
            with self.assertRaises(BadWeaving) as caught:
                result(EXAMPLE, thing, ())
            if not isinstance(thing, tuple):
                self.assertEqual(caught.exception.at, -1)
        with self.assertRaises(BadWeaving) as caught:
            result(EXAMPLE, (0, True, 0, 1), ())
        self.assertEqual(caught.exception.at, 1)


class SerialTest(unittest.TestCase):
    def test_by_transactions(self):
        database = ((None, (0,)), (None, (1,)))
        found = serial_result(EXAMPLE, ((0, 0), (1, 0)), database)
        self.assertEqual(found.rows, ((None, (0,)), (None, (0,))))
        self.assertEqual(found.returned, {(0, 0, 0): ((0, (1,)),), (1, 0, 0): ((0, (0,)), (1, (0,)))})
        found = serial_result(EXAMPLE, ((1, 0), (0, 0)), database)
        self.assertEqual(found.rows, ((None, (1,)), (None, (1,))))
        self.assertEqual(found.returned, {(0, 0, 0): ((0, (1,)), (1, (1,))), (1, 0, 0): ((1, (0,)),)})

    def test_by_statements(self):
        mix = mix_of("a=2", "change a = 1 where a = 0 / change a = 2 where a = 1 / commit", "look where a = 1 / commit")
        database = ((None, (0,)),)
        found = serial_result(mix, ((0, 0, 0), (1, 0, 0), (0, 0, 1)), database)
        self.assertEqual(found.rows, ((None, (2,)),))
        self.assertEqual(found.returned, {(0, 0, 0): ((0, (1,)),), (0, 0, 1): ((0, (2,)),), (1, 0, 0): ((0, (1,)),)})
        found = serial_result(mix, ((1, 0, 0), (0, 0, 0), (0, 0, 1)), database)
        self.assertEqual(found.returned[(1, 0, 0)], ())

    def test_all_words(self):
        mix = mix_of("a=2", "put k (1) / put k (0) or change a = a + 1 where a = 1 / put k (0) or nothing / commit",
                     "share where name = k / sole where a = 2 / remove where a = 2 / put k (0) / look / commit")
        found = serial_result(mix, ((0, 0), (1, 0)), ((None, (2,)),))
        self.assertEqual(found.rows, ((None, None), ("k", (0,))))
        self.assertEqual([found.returned[unit] for unit in mix.units()], [
            ((1, (1,)),), ((1, (2,)),), (), ((1, (2,)),), ((0, (2,)), (1, (2,))), ((0, (2,)), (1, (2,))), ((1, (0,)),), ((1, (0,)),),
        ])
        found = serial_result(mix, ((1, 0), (0, 0)), (("k", (2,)), ("j", (1,))))
        self.assertEqual(found.rows, (("k", (0,)), ("j", (1,))))
        self.assertEqual([found.returned[unit] for unit in mix.units()], [
            (), (), (), ((0, (2,)),), ((0, (2,)),), ((0, (2,)),), ((0, (0,)),), ((0, (0,)), (1, (1,))),
        ])

    def test_what_has_no_effect(self):
        mix = mix_of("a=2", "begin repeatable / table / mark / change a = 0 / back / change a = a + 1 / commit / change a = 0 / undo",
                     "table / change a = 0 / undo")
        database = ((None, (1,)),)
        for order in (((0, 0),), ((0, 0, 4),)):
            found = serial_result(mix, order, database)
            self.assertEqual((found.rows, found.returned), (((None, (2,)),), {(0, 0, 4): ((0, (2,)),)}))

    def test_nothing_is_committed(self):
        mix = mix_of("a=2", "change a = 0 / undo")
        self.assertEqual(serial_result(mix, (), ((None, (1,)),)).rows, ((None, (1,)),))
        mix = mix_of("a=2", "table / mark / look / back / commit")
        for order in ((), ((0, 0),)):
            self.assertEqual(serial_result(mix, order, ((None, (1,)),)).returned, {})

    def test_more_orders_than_are_listed(self):
        mix = mix_of("a=1", *["look / look / look / commit"] * 3)
        order = tuple((session, 0, index) for index in range(3) for session in range(3))
        found = serial_result(mix, order, ((None, (1,)),))
        self.assertEqual(found.returned, {unit: ((0, (1,)),) for unit in mix.units()})

    def test_wrong_orders(self):
        mix = mix_of("a=2", "look / commit / look / commit", "look / look / commit", "look / undo")
        good = ((0, 0), (0, 1), (1, 0))
        units = ((0, 0, 0), (0, 1, 0), (1, 0, 0), (1, 0, 1))
        for order in (good, ((0, 0), (1, 0), (0, 1)), units, ((1, 0, 0), (0, 0, 0), (0, 1, 0), (1, 0, 1))):
            serial_result(mix, order, ())
        wrong = [thing for thing in ANY] + [
            list(good), good[:2], good + ((1, 0),), good + ((2, 0),), ((0, 1), (0, 0), (1, 0)), good[:2] + ((1, 0, 0), (1, 0, 1)),
            units[:3], units + ((2, 0, 0),), ((0, 0, 0), (0, 1, 0), (1, 0, 1), (1, 0, 0)), ((False, 0), (0, 1), (1, 0)),
            ((0, 0), (0, True), (1, 0)), ([0, 0], (0, 1), (1, 0)), ((0, 0), (0, 1), (1, 0), ()), ((0, 0), (0, 1), (1,)),
            ((0, 0), (0, 1), (4, 0)), ((0, 0), (0, 1), (-2, 0)), ((0, 0), (0, 1), None), ((0, 0), (0, 0), (0, 1), (1, 0)), (0, 0, 1, 0),
        ]
        for order in wrong:
            with self.subTest(order=order), self.assertRaises(BadOrder) as caught:
                serial_result(mix, order, ())
            self.assertEqual(caught.exception.order, order)

    def test_wrong_databases(self):
        with self.assertRaises(BadDatabase) as caught:
            serial_result(EXAMPLE, ((0, 0), (1, 0)), ((None, (0,)), ("k", (3,))))
        self.assertEqual(caught.exception.at, 1)

    def test_weavings_without_overlap_are_orders(self):
        mix = mix_of("a=2", "change a = a + 1 where a < 2 / look / commit", "put k (0) or change a = 2 / remove where a = 1 / commit",
                     "begin repeatable / share where name = k / change a = 0 where a = 2 / commit")
        database = ((None, (0,)), ("k", (1,)), (None, (1,)), (None, (2,)))
        for order in orders(mix):
            weaving = tuple(session for session, _ in order for _ in range(3))
            for rows in (database, database[2:]):
                self.assertEqual(result(mix, weaving, rows), serial_result(mix, order, rows))


class ObjectTest(unittest.TestCase):
    def test_equality(self):
        one = result(EXAMPLE, (0, 0, 1, 1), ((None, (0,)),))
        self.assertEqual(one, result(EXAMPLE, (0, 0, 1, 1), ((None, (0,)),)))
        self.assertEqual(one, serial_result(EXAMPLE, ((0, 0), (1, 0)), ((None, (0,)),)))
        self.assertNotEqual(one, serial_result(EXAMPLE, ((1, 0), (0, 0)), ((None, (0,)),)))
        self.assertNotEqual(one, result(EXAMPLE, (0, 0, 1, 1), (("k", (0,)),)))
        self.assertNotEqual(one, result(EXAMPLE, (0, 0, 1, 1), ()))
        mix = mix_of("a=1", "look where a = 1 / commit")
        other = mix_of("a=1", "look where a = 0 / commit")
        first, second = (result(told, (0, 0), ((None, (1,)),)) for told in (mix, other))
        self.assertEqual(first.rows, second.rows)
        self.assertNotEqual(first, second)
        for thing in [*ANY, (one.rows, one.returned), one.rows, way(EXAMPLE, (0, 0, 1, 1), (None, (0,)))]:
            self.assertFalse(one == thing)
            self.assertTrue(one != thing)

    def test_results_are_new_and_arguments_stay(self):
        one = result(EXAMPLE, (0, 0, 1, 1), ((None, (0,)),))
        one.returned[(0, 0, 0)] = "changed"
        one.returned.clear()
        self.assertEqual(len(result(EXAMPLE, (0, 0, 1, 1), ((None, (0,)),)).returned), 2)
        text = str(NAMES)
        result(NAMES, (0, 0, 0, 1, 1, 1), (("k", (0,)),))
        self.assertEqual(str(NAMES), text)
        self.assertEqual(NAMES, Mix.read(text))

    def test_parameters_by_name(self):
        one = result(database=(), weaving=(0, 0, 1, 1), mix=EXAMPLE)
        self.assertEqual(one, serial_result(database=(), order=((0, 0), (1, 0)), mix=EXAMPLE))

    def test_kinds_of_values(self):
        one = result(NAMES, (0, 0, 0, 1, 1, 1), (("k", (2,)),))
        self.assertIsInstance(one.rows, tuple)
        self.assertIsInstance(one.returned, dict)
        self.assertEqual(list(one.returned), NAMES.units())
        self.assertTrue(all(isinstance(rows, tuple) for rows in one.returned.values()))


if __name__ == "__main__":
    unittest.main()
