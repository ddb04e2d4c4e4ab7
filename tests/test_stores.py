"""Points 2 and 9 to 12: stores, and which rows fit a call."""

import inspect
import itertools
import random
import unittest

from cappedcalls.errors import InvalidCall, InvalidStore, LimitExceeded, SchemaMismatch, UnknownName
from cappedcalls.schemas import Schema
from cappedcalls.stores import Store
from cappedcalls.values import sorted_rows
from makers import random_schema, random_store

GREATEST = 10 ** 30 - 1
TABLES = {"road": 2, "town": 3, "flag": 1}
KEYS = {"town": (0, 2)}
SERVICES = {"out": ("road", (0,), 1), "into": ("road", (1,), None), "exact": ("road", (0, 1), None),
            "all": ("road", (), None), "town": ("town", (0, 2), 1), "flags": ("flag", (), 2)}
NO_VALUES = [True, False, None, "", "A", "a1", "a b", "abcdefghi", "\u00e9", GREATEST + 1, -GREATEST - 1,
             (), (1,), [], [1], ("a",)]


def made():
    return Schema(TABLES, KEYS, SERVICES)


def roads(many, start=0):
    return [(number, "a") for number in range(start, start + many)]


class StoreCase(unittest.TestCase):
    def refused(self, rows, table, at, schema=None):
        with self.assertRaises(InvalidStore) as caught:
            Store(schema or made(), rows)
        self.assertEqual((caught.exception.table, caught.exception.at), (table, at))

    def too_many(self, call):
        with self.assertRaises(LimitExceeded) as caught:
            call()
        self.assertEqual(caught.exception.limit, 400)


class ExamplesTest(StoreCase):
    def test_first_example(self):
        schema = Schema({"road": 2}, {}, {"out": ("road", (0,), 1)})
        store = Store(schema, {"road": [("a", 3), (7, 1), ("a", 2)]})
        found = [store["road"], store.fitting("out", ("a",)), len(store), ("road", (7, 1)) in store]
        self.assertEqual(found, [[(7, 1), ("a", 2), ("a", 3)], [("a", 2), ("a", 3)], 3, True])

    def test_second_example(self):
        schema = Schema({"road": 2}, {"road": (0,)}, {"out": ("road", (0,), 1)})
        self.refused({"road": [(1, 5), (2, 5), (1, 6)]}, "road", 2, schema)


class RowsTest(StoreCase):
    def test_rows_of_every_width(self):
        schema = made()
        for table, width in TABLES.items():
            for many in range(6):
                row = tuple("abcdef"[:many])
                if many == width:
                    self.assertEqual(Store(schema, {table: [row]})[table], [row])
                else:
                    self.refused({table: [row]}, table, 0)

    def test_things_that_are_no_tuples(self):
        for thing in [None, 1, True, "a", "ab", [1, 2], ["a", "b"], [], [(1, 2)], ((1, 2),)]:
            self.refused({"road": [thing]}, "road", 0)
            self.refused({"road": [(1, 2), thing, (1, 2)]}, "road", 1)

    def test_things_that_are_no_values(self):
        for thing in NO_VALUES:
            self.refused({"road": [(1, thing)]}, "road", 0)
            self.refused({"road": [(1, 2), (3, 4), (thing, 1)]}, "road", 2)
            self.refused({"flag": [(thing,)]}, "flag", 0)

    def test_the_greatest_and_the_least_value(self):
        rows = [(GREATEST, -GREATEST), ("zzzzzzzz", "a"), (0, -1)]
        self.assertEqual(Store(made(), {"road": rows})["road"], sorted_rows(rows))

    def test_a_row_that_stands_twice(self):
        self.refused({"road": [(1, 2), (2, 1), (1, 2)]}, "road", 2)
        self.refused({"flag": [("a",), ("a",)]}, "flag", 1)
        self.refused({"town": [(1, 2, 3), (1, 2, 3)]}, "town", 1)
        self.assertEqual(len(Store(made(), {"road": [(1, 2), (2, 1), (1, 1)]})), 3)

    def test_rows_that_agree_in_the_key(self):
        self.refused({"town": [(1, 5, 2), (1, 6, 2)]}, "town", 1)
        self.refused({"town": [(1, 5, 2), (2, 5, 2), ("a", 1, 2), (2, 7, 2)]}, "town", 3)

    def test_rows_that_agree_in_some_columns_of_the_key_only(self):
        rows = [(1, 5, 2), (1, 5, 3), (2, 5, 2), (2, 5, 1)]
        self.assertEqual(Store(made(), {"town": rows})["town"], sorted_rows(rows))

    def test_a_table_without_a_key(self):
        rows = [(1, 2), (1, 3), (2, 2)]
        self.assertEqual(Store(made(), {"road": rows})["road"], rows)

    def test_every_key_of_a_table(self):
        for key in [(0,), (1,), (2,), (0, 1), (0, 2), (1, 2)]:
            schema = Schema({"town": 3}, {"town": key}, {"all": ("town", (), None)})
            for row in itertools.product([1, 2], repeat=3):
                if row == (1, 1, 1) or all(row[column] == 1 for column in key):
                    self.refused({"town": [(1, 1, 1), row]}, "town", 1, schema)
                else:
                    self.assertEqual(len(Store(schema, {"town": [(1, 1, 1), row]})), 2)

    def test_the_first_wrong_row(self):
        self.refused({"road": [(1, 2), (1,), (1, 2), None]}, "road", 1)
        self.refused({"road": [(1, 2), (1, 2), (1,)]}, "road", 1)
        self.refused({"town": [(1, 2, 3), (1, 3, 3), (1, 2)]}, "town", 1)


class TablesTest(StoreCase):
    def test_tables_that_are_not_there(self):
        for name in ["roads", "", "out", "Road", "abcdefghi"]:
            self.refused({name: []}, name, None)
            self.refused({name: [(1, 2)]}, name, None)
            self.refused({"road": [(1, 2)], name: None}, name, None)

    def test_a_table_that_is_not_in_the_dict(self):
        store = Store(made(), {"road": [(1, 2)]})
        self.assertEqual([store["town"], store["flag"], len(store)], [[], [], 1])
        self.assertEqual(len(Store(made(), {})), 0)
        self.assertEqual(Store(made(), {}), Store(made(), {"road": [], "flag": []}))

    def test_tables_are_checked_in_ascending_order(self):
        wrong = {"town": [(1,)], "road": [(1, 2), ()], "flag": [(1,), (2,)]}
        for names in itertools.permutations(wrong):
            self.refused({name: wrong[name] for name in names}, "road", 1)
        for names in itertools.permutations(["road", "roads", "town"]):
            self.refused({name: [None] for name in names}, "road", 0)
        self.refused({"town": [None], "roads": [(1, 2)]}, "roads", None)
        self.refused({"zz": [], "town": [None]}, "town", 0)


class LimitTest(StoreCase):
    def test_one_table(self):
        self.assertEqual(len(Store(made(), {"road": roads(400)})), 400)
        self.too_many(lambda: Store(made(), {"road": roads(401)}))
        self.too_many(lambda: Store(made(), {"road": roads(1000)}))

    def test_several_tables(self):
        flags = [(number,) for number in range(200)]
        towns = [(number, 1, 2) for number in range(100)]
        self.assertEqual(len(Store(made(), {"road": roads(100), "flag": flags, "town": towns})), 400)
        self.too_many(lambda: Store(made(), {"road": roads(101), "flag": flags, "town": towns}))
        self.too_many(lambda: Store(made(), {"road": roads(400), "flag": [(1,)]}))

    def test_wrong_rows_come_before_too_many(self):
        self.refused({"road": roads(500) + [(1, "a")]}, "road", 500)
        self.refused({"flag": [(number,) for number in range(401)], "town": [()]}, "town", 0)
        self.refused({"flag": [(number,) for number in range(401)], "zz": []}, "zz", None)


class ReadingTest(StoreCase):
    def setUp(self):
        self.rows = {"road": [("b", 1), (2, "a"), (10, 0), (2, 3)], "flag": [("x",)]}
        self.store = Store(made(), self.rows)

    def test_schema(self):
        schema = made()
        self.assertIs(Store(schema, {}).schema, schema)

    def test_sorted_rows_of_a_table(self):
        self.assertEqual(self.store["road"], [(2, 3), (2, "a"), (10, 0), ("b", 1)])
        self.assertEqual(self.store["flag"], [("x",)])
        self.assertIs(type(self.store["town"]), list)

    def test_rows_of_an_unknown_table(self):
        for name in ["roads", "", "out"]:
            with self.assertRaises(UnknownName) as caught:
                self.store[name]
            self.assertEqual(caught.exception.name, name)

    def test_in(self):
        self.assertIs(("road", (2, "a")) in self.store, True)
        self.assertIs(("road", ("a", 2)) in self.store, False)
        self.assertIs(("road", (2,)) in self.store, False)
        self.assertIs(("town", (2, "a")) in self.store, False)
        self.assertIs(("flag", ("x",)) in self.store, True)
        self.assertIs(("flag", (2, "a")) in self.store, False)
        self.assertIs(("zz", (2, "a")) in self.store, False)
        self.assertIs(("road", (2, "a")) not in self.store, False)

    def test_len(self):
        self.assertEqual(len(self.store), 5)
        self.assertEqual(len(Store(made(), {"flag": [(1,), (2,)]})), 2)

    def test_the_order_of_rows_and_keys_has_no_effect(self):
        turned = Store(made(), {"flag": [("x",)], "road": self.rows["road"][::-1]})
        self.assertEqual(turned, self.store)
        self.assertEqual(turned["road"], self.store["road"])
        self.assertEqual(turned.fitting("out", (2,)), self.store.fitting("out", (2,)))


class EqualTest(StoreCase):
    def test_equal(self):
        one = Store(made(), {"road": [(1, 2), (3, 4)], "town": []})
        other = Store(made(), {"road": [(3, 4), (1, 2)]})
        self.assertIs(one == other, True)
        self.assertIs(one != other, False)

    def test_other_rows(self):
        one = Store(made(), {"road": [(1, 2)]})
        for rows in [{}, {"road": [(2, 1)]}, {"road": [(1, 2), (3, 4)]}, {"road": [(1, 2)], "flag": [(1,)]},
                     {"road": [(1, "b")]}]:
            self.assertIs(one == Store(made(), rows), False)
            self.assertIs(Store(made(), rows) == one, False)
            self.assertIs(one != Store(made(), rows), True)

    def test_the_same_rows_in_another_table(self):
        schema = Schema({"a": 1, "b": 1}, {}, {"all": ("a", (), None)})
        self.assertIs(Store(schema, {"a": [(1,)]}) == Store(schema, {"b": [(1,)]}), False)

    def test_other_schemas(self):
        one = Store(made(), {"road": [(1, 2)]})
        self.assertIs(one == Store(made().uncapped(["out"]), {"road": [(1, 2)]}), False)


class PartTest(StoreCase):
    def part(self, one, other):
        return Store(made(), one).is_part_of(Store(made(), other))

    def test_parts(self):
        self.assertIs(self.part({}, {}), True)
        self.assertIs(self.part({}, {"road": [(1, 2)]}), True)
        self.assertIs(self.part({"road": [(1, 2)]}, {"road": [(1, 2)]}), True)
        self.assertIs(self.part({"road": [(1, 2)]}, {"road": [(1, 3), (1, 2)], "flag": [(1,)]}), True)

    def test_no_parts(self):
        self.assertIs(self.part({"road": [(1, 2)]}, {}), False)
        self.assertIs(self.part({"road": [(1, 2), (1, 3)]}, {"road": [(1, 3)]}), False)
        self.assertIs(self.part({"road": [(1, 2)], "flag": [(1,)]}, {"road": [(1, 2)], "flag": [(2,)]}), False)
        self.assertIs(self.part({"flag": [(1,)]}, {"road": [(1, 1)]}), False)

    def test_schemas(self):
        with self.assertRaises(SchemaMismatch):
            Store(made(), {}).is_part_of(Store(made().uncapped(["out"]), {}))


class UnionTest(StoreCase):
    def refused_union(self, one, other, table, at):
        one, other = Store(made(), one), Store(made(), other)
        before = [one["road"], one["town"], other["road"], other["town"]]
        with self.assertRaises(InvalidStore) as caught:
            one | other
        self.assertEqual((caught.exception.table, caught.exception.at), (table, at))
        self.assertEqual([one["road"], one["town"], other["road"], other["town"]], before)

    def test_rows_of_both(self):
        one = Store(made(), {"road": [(1, 2), (5, 6)], "flag": [(1,)]})
        other = Store(made(), {"road": [(3, 4), (1, 2)], "town": [(1, 2, 3)]})
        found = one | other
        expected = {"road": [(1, 2), (3, 4), (5, 6)], "flag": [(1,)], "town": [(1, 2, 3)]}
        self.assertEqual(found, Store(made(), expected))
        self.assertEqual(found["road"], expected["road"])
        self.assertEqual(found.fitting("out", (3,)), [(3, 4)])
        self.assertEqual(other | one, found)
        self.assertEqual(len(one), 3)
        self.assertEqual(len(other), 3)

    def test_itself_and_nothing(self):
        one = Store(made(), {"road": [(1, 2)], "town": [(1, 2, 3)]})
        self.assertEqual(one | one, one)
        self.assertIsNot(one | one, one)
        self.assertEqual(one | Store(made(), {}), one)
        self.assertEqual(Store(made(), {}) | one, one)

    def test_a_key_that_breaks(self):
        towns = [(1, 1, 1), (2, 1, 1), (3, 1, 1)]
        self.refused_union({"town": towns}, {"town": [(2, 2, 1)]}, "town", 3)
        # The two rows that both stores have are not counted again.
        self.refused_union({"town": towns}, {"town": [(1, 1, 1), (3, 1, 1), (4, 1, 1), (2, 2, 1)]}, "town", 3)
        self.refused_union({"town": towns}, {"town": [(1, 1, 1), (4, 0, 0), (2, 2, 1), (5, 1, 1)]}, "town", 3)
        self.refused_union({"town": towns}, {"town": [(9, 1, 1), (8, 1, 1), ("a", 1, 1), (2, 2, 1), (0, 0, 0)]},
                           "town", 4)

    def test_too_many_rows(self):
        one = Store(made(), {"road": roads(300)})
        self.assertEqual(len(one | Store(made(), {"road": roads(350, 50)})), 400)
        self.too_many(lambda: one | Store(made(), {"road": roads(101, 300)}))
        self.too_many(lambda: one | Store(made(), {"flag": [(number,) for number in range(101)]}))
        self.assertEqual(one, Store(made(), {"road": roads(300)}))

    def test_a_key_that_breaks_comes_before_too_many_rows(self):
        self.refused_union({"road": roads(399), "town": [(1, 1, 1)]}, {"town": [(1, 2, 1)], "road": roads(5, 399)},
                           "town", 1)

    def test_the_first_table_whose_key_breaks(self):
        schema = Schema({"b": 2, "a": 2}, {"a": (0,), "b": (0,)}, {"all": ("a", (), None)})
        with self.assertRaises(InvalidStore) as caught:
            Store(schema, {"b": [(1, 1)], "a": [(1, 1)]}) | Store(schema, {"b": [(1, 2)], "a": [(1, 2)]})
        self.assertEqual((caught.exception.table, caught.exception.at), ("a", 1))

    def test_schemas_come_first(self):
        one = Store(made(), {"town": [(1, 1, 1)], "road": roads(399)})
        other = Store(made().uncapped(["out"]), {"town": [(1, 2, 1)], "road": roads(399, 500)})
        with self.assertRaises(SchemaMismatch):
            one | other


class FittingTest(StoreCase):
    def setUp(self):
        self.store = Store(made(), {"road": [(1, 2), (1, "a"), (2, 1), ("a", 1), (1, 0)],
                                    "town": [(1, 5, 2), (1, 5, 3), (2, 5, 2)]})

    def test_one_given_column(self):
        self.assertEqual(self.store.fitting("out", (1,)), [(1, 0), (1, 2), (1, "a")])
        self.assertEqual(self.store.fitting("into", (1,)), [(2, 1), ("a", 1)])
        self.assertEqual(self.store.fitting("out", (0,)), [])

    def test_no_given_column(self):
        self.assertEqual(self.store.fitting("all", ()), self.store["road"])
        self.assertEqual(self.store.fitting("flags", ()), [])

    def test_all_columns_given(self):
        self.assertEqual(self.store.fitting("exact", (1, 2)), [(1, 2)])
        self.assertEqual(self.store.fitting("exact", (2, 2)), [])
        self.assertEqual(self.store.fitting("exact", ("a", 1)), [("a", 1)])

    def test_given_columns_in_their_order(self):
        self.assertEqual(self.store.fitting("town", (1, 2)), [(1, 5, 2)])
        self.assertEqual(self.store.fitting("town", (2, 1)), [])

    def test_caps_have_no_effect(self):
        self.assertEqual(len(self.store.fitting("out", (1,))), 3)

    def test_every_call_the_long_way(self):
        for seed in range(60):
            generator = random.Random(seed)
            schema = random_schema(generator)
            store = random_store(generator, schema, 12)
            for service, (table, given, _) in schema.services.items():
                for values in itertools.product([1, 2, 3, "x", "y"], repeat=len(given)):
                    expected = [row for row in store[table]
                                if all(row[column] == value for column, value in zip(given, values))]
                    self.assertEqual(store.fitting(service, values), expected)

    def test_unknown_services(self):
        for name in ["road", "", "outs", "Out"]:
            for given in [(), (1,), (None,)]:
                with self.assertRaises(UnknownName) as caught:
                    self.store.fitting(name, given)
                self.assertEqual(caught.exception.name, name)

    def wrong(self, service, given):
        with self.assertRaises(InvalidCall) as caught:
            self.store.fitting(service, given)
        self.assertEqual(caught.exception.service, service)

    def test_too_short_and_too_long(self):
        for service, many in [("out", 1), ("all", 0), ("exact", 2), ("town", 2)]:
            for other in range(5):
                if other != many:
                    self.wrong(service, (1,) * other)

    def test_no_values(self):
        for thing in NO_VALUES:
            self.wrong("out", (thing,))
            self.wrong("exact", (1, thing))
            self.wrong("exact", (thing, 1))

    def test_no_tuple(self):
        for given in [[1], 1, "a", None]:
            self.wrong("out", given)
        self.wrong("all", [])


class ChangedByTheCallerTest(StoreCase):
    def test_arguments_are_not_modified(self):
        rows = {"road": [(3, 4), (1, 2)], "flag": [("b",), (1,)]}
        store = Store(made(), rows)
        self.assertEqual(rows, {"road": [(3, 4), (1, 2)], "flag": [("b",), (1,)]})
        self.assertEqual(list(rows), ["road", "flag"])
        store | Store(made(), {"road": [(5, 6)]})
        self.refused({**rows, "town": [()]}, "town", 0)
        self.assertEqual(rows, {"road": [(3, 4), (1, 2)], "flag": [("b",), (1,)]})

    def test_later_changes_to_the_arguments(self):
        rows = {"road": [(3, 4), (1, 2)]}
        store = Store(made(), rows)
        rows["road"].append((5, 6))
        rows["flag"] = [(1,)]
        self.assertEqual(store, Store(made(), {"road": [(1, 2), (3, 4)]}))
        self.assertEqual(store["road"], [(1, 2), (3, 4)])
        self.assertEqual(store.fitting("out", (5,)), [])
        self.assertEqual(len(store), 2)

    def test_changes_to_the_lists(self):
        store = Store(made(), {"road": [(1, 2), (3, 4)]})
        for call in [lambda: store["road"], lambda: store["flag"], lambda: store.fitting("out", (1,)),
                     lambda: store.fitting("all", ()), lambda: store.fitting("out", (9,)),
                     lambda: store.fitting("exact", (1, 2))]:
            expected = list(call())
            found = call()
            found.append((7, 7))
            found.reverse()
            self.assertEqual(call(), expected)
        self.assertEqual(store, Store(made(), {"road": [(1, 2), (3, 4)]}))
        self.assertEqual(len(store), 2)

    def test_a_union_shares_nothing(self):
        one, other = Store(made(), {"road": [(1, 2)]}), Store(made(), {"road": [(3, 4)]})
        found = one | other
        found["road"].clear()
        found.fitting("all", ()).clear()
        self.assertEqual(one["road"] + other["road"], found["road"])

    def test_an_error_changes_nothing(self):
        store = Store(made(), {"road": [(1, 2)]})
        with self.assertRaises(UnknownName):
            store["zz"]
        with self.assertRaises(UnknownName):
            store.fitting("zz", ())
        with self.assertRaises(InvalidCall):
            store.fitting("out", ())
        self.assertEqual(store, Store(made(), {"road": [(1, 2)]}))


class InterfaceTest(unittest.TestCase):
    def test_methods_stand_in_the_class_itself(self):
        arguments = {"__init__": ["schema", "rows"], "is_part_of": ["other"], "fitting": ["service", "given"]}
        for name, expected in arguments.items():
            self.assertEqual(list(inspect.signature(vars(Store)[name]).parameters)[1:], expected)
        for name in ["__getitem__", "__contains__", "__len__", "__eq__", "__or__"]:
            self.assertIn(name, vars(Store))


if __name__ == "__main__":
    unittest.main()
