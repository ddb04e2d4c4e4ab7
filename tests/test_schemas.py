"""Points 6 to 9 and the first two sentences of point 28: schemas."""

import inspect
import itertools
import unittest

from cappedcalls.errors import InvalidSchema, UnknownName
from cappedcalls.schemas import Schema

TABLES = {"road": 2, "town": 3, "flag": 1, "wide": 4}
KEYS = {"town": (0,), "wide": (1, 3)}
SERVICES = {
    "out": ("road", (0,), 2),
    "all": ("road", (), None),
    "exact": ("road", (0, 1), 1),
    "named": ("town", (0, 1), 1),
    "some": ("flag", (), 4),
    "pick": ("wide", (0, 1, 2), 3),
    "keyed": ("wide", (1, 2, 3), 1),
}
EVERY = {"every": ("road", (), None)}
# Things of every kind that a caller may hand in where another kind is asked for.
NO_INTEGERS = [True, False, None, "1", "a", (), (1,), [], [1]]


def made():
    return Schema(TABLES, KEYS, SERVICES)


class SchemaCase(unittest.TestCase):
    def refused(self, tables, keys, services, part, name):
        with self.assertRaises(InvalidSchema) as caught:
            Schema(tables, keys, services)
        self.assertEqual((caught.exception.part, caught.exception.name), (part, name))

    def unknown(self, name, call):
        with self.assertRaises(UnknownName) as caught:
            call()
        self.assertEqual(caught.exception.name, name)


class ExamplesTest(SchemaCase):
    def test_first_example(self):
        tables = {"road": 2, "town": 3}
        services = {"out": ("road", (0,), 2), "all": ("road", (), None), "named": ("town", (0, 1), 1)}
        schema = Schema(tables, {"town": (0,)}, services)
        found = [schema.is_whole("out"), schema.is_whole("all"), schema.is_whole("named"),
                 schema.uncapped(["out"]).capped_names()]
        self.assertEqual(found, [False, True, True, []])

    def test_second_example(self):
        self.refused({"road": 2}, {"road": (0, 1)}, {"all": ("road", (), None)}, "keys", "road")

    def test_third_example(self):
        services = {"b": ("road", (), 1), "a": ("road", (1,), 3)}
        self.refused({"road": 2}, {}, services, "capped", "b")


class TablesTest(SchemaCase):
    def test_number_of_tables(self):
        for many in range(8):
            tables = {"t" + letter: 1 for letter in "abcdefg"[:many]}
            if 1 <= many <= 5:
                schema = Schema(tables, {}, {"every": ("ta", (), None)})
                self.assertEqual(schema.table_names(), sorted(tables))
            else:
                self.refused(tables, {}, {"every": ("ta", (), None)}, "tables", None)

    def test_number_comes_before_the_names(self):
        self.refused({str(number): True for number in range(6)}, {}, {}, "tables", None)

    def test_widths(self):
        for width in [1, 2, 3, 4]:
            schema = Schema({"road": width}, {}, EVERY)
            self.assertEqual(schema.width_of("road"), width)
        for width in [-1, 0, 5, 6, 10 ** 30, *NO_INTEGERS]:
            self.refused({"road": width}, {}, EVERY, "tables", "road")

    def test_names(self):
        for name in ["a", "abcdefgh"]:
            self.assertEqual(Schema({name: 1}, {}, {"all": (name, (), None)}).table_names(), [name])
        for name in ["", "abcdefghi", "Road", "ro ad", "road1", "r\u00f6ad", "road\n"]:
            self.refused({name: 1}, {}, {"all": (name, (), None)}, "tables", name)

    def test_first_name_in_ascending_order(self):
        for tables in [{"c": 9, "b": 0, "a": 1}, {"a": 1, "b": 0, "c": 9}]:
            self.refused(tables, {}, EVERY, "tables", "b")
        self.refused({"b": 0, "B": 1, "a": 5}, {}, EVERY, "tables", "B")


class KeysTest(SchemaCase):
    def test_keys_of_every_width(self):
        for width in range(1, 5):
            columns = range(-1, 5)
            for many in range(5):
                for key in itertools.product(columns, repeat=many):
                    right = (0 < many < width and list(key) == sorted(set(key))
                             and 0 <= key[0] and key[-1] < width)
                    if right:
                        schema = Schema({"road": width}, {"road": key}, EVERY)
                        self.assertEqual(schema.key_of("road"), key)
                    else:
                        self.refused({"road": width}, {"road": key}, EVERY, "keys", "road")

    def test_other_kinds(self):
        for key in [[0], [], None, 0, 1, True, "a", "", (True,), (False,), ("a",), ("",), (None,),
                    ((0,),), ([0],), (0, True), (False, 1), (0, "a"), (0, None)]:
            self.refused({"town": 3}, {"town": key}, EVERY, "keys", "town")

    def test_names_that_are_no_tables(self):
        for name in ["town", "", "Road", "every"]:
            self.refused({"road": 2}, {name: (0,)}, EVERY, "keys", name)

    def test_first_name_in_ascending_order(self):
        tables = {"a": 2, "b": 2, "c": 2}
        for keys in [{"c": (), "b": (1, 0), "a": (1,)}, {"a": (1,), "b": (1, 0), "c": ()}]:
            self.refused(tables, keys, EVERY, "keys", "b")
        self.refused(tables, {"bb": (0,), "c": ()}, EVERY, "keys", "bb")

    def test_a_table_of_one_column_has_no_key(self):
        self.refused({"flag": 1}, {"flag": (0,)}, EVERY, "keys", "flag")


class ServicesTest(SchemaCase):
    def test_number_of_services(self):
        for many in range(11):
            services = {"s" + letter: ("road", (), None) for letter in "abcdefghij"[:many]}
            if 1 <= many <= 8:
                self.assertEqual(Schema({"road": 2}, {}, services).service_names(), sorted(services))
            else:
                self.refused({"road": 2}, {}, services, "services", None)

    def test_number_comes_before_the_names(self):
        self.refused({"road": 2}, {}, {str(number): None for number in range(9)}, "services", None)

    def test_names(self):
        for name in ["a", "abcdefgh", "road"]:
            schema = Schema({"road": 2}, {}, {name: ("road", (), None)})
            self.assertEqual(schema.service_names(), [name])
        for name in ["", "abcdefghi", "All", "a b", "a1", "\u00e4"]:
            self.refused({"road": 2}, {}, {name: ("road", (), None)}, "services", name)

    def test_caps(self):
        for cap in [None, 1, 2, 3, 4]:
            schema = Schema({"road": 2}, {}, {"out": ("road", (0,), cap)})
            self.assertEqual(schema.service_of("out"), ("road", (0,), cap))
        for cap in [-1, 0, 5, 10 ** 30, True, False, "1", "all", (), (1,), [], [1]]:
            self.refused({"road": 2}, {}, {"out": ("road", (0,), cap)}, "services", "out")

    def test_caps_of_whole_services_are_checked_too(self):
        for cap in [0, 5, True]:
            self.refused({"road": 2}, {}, {"out": ("road", (0, 1), cap)}, "services", "out")

    def test_given_columns_of_every_width(self):
        for width in range(1, 5):
            columns = range(-1, 5)
            for many in range(6):
                for given in itertools.product(columns, repeat=many):
                    services = {"out": ("road", given, 1)}
                    right = list(given) == sorted(set(given)) and all(0 <= at < width for at in given)
                    if right:
                        self.assertEqual(Schema({"road": width}, {}, services).services, services)
                    else:
                        self.refused({"road": width}, {}, services, "services", "out")

    def test_given_of_other_kinds(self):
        for given in [[], [0], None, 0, True, "", "a", (True,), (False,), (False, 1), (0, True),
                      ("a",), (None,), ((0,),), ([0],), (0, "a")]:
            self.refused({"road": 2}, {}, {"out": ("road", given, 1)}, "services", "out")

    def test_tables_that_are_not_there(self):
        for table in ["town", "", "out", None, 0, True, (), ("road",), [], ["road"]]:
            self.refused({"road": 2}, {}, {"out": (table, (), 1)}, "services", "out")

    def test_no_tuple_of_three_things(self):
        for service in [None, 0, True, "road", "out", (), [], ("road",), ("road", ()),
                        ("road", (), None, None), ["road", (), None], (("road", (), None),)]:
            self.refused({"road": 2}, {}, {"out": service}, "services", "out")

    def test_first_name_in_ascending_order(self):
        right = ("road", (), None)
        wrong = ("road", (), 0)
        for services in [{"c": wrong, "b": wrong, "a": right}, {"a": right, "b": wrong, "c": wrong}]:
            self.refused({"road": 2}, {}, services, "services", "b")
        self.refused({"road": 2}, {}, {"b": wrong, "B": right}, "services", "B")


class CappedTest(SchemaCase):
    def test_second_capped_service(self):
        one = ("road", (0,), 2)
        other = ("road", (), 1)
        self.refused({"road": 2}, {}, {"x": one, "y": other}, "capped", "y")
        self.refused({"road": 2}, {}, {"y": one, "x": other}, "capped", "y")
        self.refused({"road": 2}, {}, {"c": one, "b": other, "a": ("road", (), None)}, "capped", "c")

    def test_the_same_capped_service_twice(self):
        self.refused({"road": 2}, {}, {"x": ("road", (0,), 2), "y": ("road", (0,), 2)}, "capped", "y")

    def test_first_name_in_ascending_order(self):
        tables = {"a": 2, "b": 2}
        services = {"k": ("b", (), 1), "l": ("a", (), 1), "m": ("b", (0,), 1), "n": ("a", (0,), 1),
                    "o": ("b", (1,), 1)}
        self.refused(tables, {}, services, "capped", "m")
        self.refused(tables, {}, dict(reversed(services.items())), "capped", "m")

    def test_one_capped_service_beside_whole_ones(self):
        services = {"a": ("town", (), 1), "b": ("town", (), None), "c": ("town", (0, 2), 1),
                    "d": ("town", (0, 1, 2), 1), "e": ("town", (2,), None), "f": ("town", (0,), 4)}
        schema = Schema({"town": 3}, {"town": (0,)}, services)
        self.assertEqual(schema.capped_names(), ["a"])

    def test_one_capped_service_for_each_table(self):
        services = {"x": ("a", (), 1), "y": ("b", (), 1), "z": ("c", (), 1)}
        schema = Schema({"a": 1, "b": 1, "c": 1}, {}, services)
        self.assertEqual(schema.capped_names(), ["x", "y", "z"])


class OrderOfTheRulesTest(SchemaCase):
    def test_two_wrong_things_at_once(self):
        # One way to break each rule, in the order of the rules. A later wrong
        # thing never hides an earlier one, whatever its name.
        right = {"tables": {"b": 2, "c": 3}, "keys": {}, "services": {"m": ("c", (), 1)}}
        wrong = [
            ("tables", {}, "tables", None),
            ("tables", {"b": 0, "c": 3}, "tables", "b"),
            ("keys", {"c": ()}, "keys", "c"),
            ("services", {}, "services", None),
            ("services", {"m": ("c", (), 0)}, "services", "m"),
            ("services", {"m": ("c", (), 1), "n": ("c", (0,), 1)}, "capped", "n"),
        ]
        for first, second in itertools.combinations(wrong, 2):
            if first[0] != second[0]:
                arguments = {**right, second[0]: second[1], first[0]: first[1]}
                self.refused(**arguments, part=first[2], name=first[3])
        Schema(**right)

    def test_two_wrong_things_in_one_argument(self):
        tables = {"b": 2, "c": 2}
        self.refused({name: 0 for name in "abcdef"}, {}, EVERY, "tables", None)
        services = {name: ("b", (), 0) for name in "abcdefghi"}
        self.refused(tables, {}, services, "services", None)
        services = {name: ("b", (), 1) for name in "abcdefghi"}
        self.refused(tables, {}, services, "services", None)
        services = {"a": ("b", (), 1), "d": ("b", (), 1), "e": ("b", (), 0)}
        self.refused(tables, {}, services, "services", "e")

    def test_names_of_different_arguments(self):
        self.refused({"z": 0}, {"a": ()}, {"a": None}, "tables", "z")
        self.refused({"z": 2}, {"z": ()}, {"a": None}, "keys", "z")
        self.refused({"z": 2}, {"z": ()}, {}, "keys", "z")


class WholeTest(SchemaCase):
    def test_whole_and_capped(self):
        schema = made()
        found = {name: schema.is_whole(name) for name in schema.service_names()}
        self.assertEqual(found, {"out": False, "all": True, "exact": True, "named": True,
                                 "some": False, "pick": False, "keyed": True})
        self.assertEqual(schema.capped_names(), ["out", "pick", "some"])

    def test_every_key_every_given_and_every_cap(self):
        columns = (0, 1, 2)
        tuples = [part for many in range(4) for part in itertools.combinations(columns, many)]
        for key, given, cap in itertools.product(tuples[:-1], tuples, [None, 1, 4]):
            keys = {"town": key} if key else {}
            schema = Schema({"town": 3}, keys, {"find": ("town", given, cap)})
            covers = bool(key) and set(key) <= set(given)
            whole = cap is None or covers or given == columns
            self.assertIs(schema.is_whole("find"), whole)
            self.assertEqual(schema.capped_names(), [] if whole else ["find"])

    def test_the_key_of_another_table_does_not_count(self):
        services = {"out": ("road", (0,), 1)}
        schema = Schema({"road": 2, "town": 2}, {"town": (0,)}, services)
        self.assertIs(schema.is_whole("out"), False)

    def test_unknown_names(self):
        schema = made()
        for name in ["road", "", "outs", "OUT"]:
            self.unknown(name, lambda: schema.is_whole(name))


class ReadingTest(SchemaCase):
    def test_properties_are_equal_to_the_arguments(self):
        schema = made()
        self.assertEqual(schema.tables, TABLES)
        self.assertEqual(schema.key_columns, KEYS)
        self.assertEqual(schema.services, SERVICES)
        for found in [schema.tables, schema.key_columns, schema.services]:
            self.assertIs(type(found), dict)

    def test_names_ascend(self):
        schema = made()
        self.assertEqual(schema.table_names(), ["flag", "road", "town", "wide"])
        self.assertEqual(schema.service_names(),
                         ["all", "exact", "keyed", "named", "out", "pick", "some"])
        found = [schema.table_names(), schema.service_names(), schema.capped_names()]
        self.assertEqual([type(names) for names in found], [list, list, list])

    def test_widths_and_keys(self):
        schema = made()
        self.assertEqual({name: schema.width_of(name) for name in TABLES}, TABLES)
        found = [schema.key_of(name) for name in ["flag", "road", "town", "wide"]]
        self.assertEqual(found, [None, None, (0,), (1, 3)])

    def test_services(self):
        schema = made()
        self.assertEqual({name: schema.service_of(name) for name in SERVICES}, SERVICES)
        self.assertIs(type(schema.service_of("out")), tuple)

    def test_unknown_names(self):
        schema = made()
        for name in ["out", "", "roads", "Road", "abcdefghi"]:
            self.unknown(name, lambda: schema.width_of(name))
            self.unknown(name, lambda: schema.key_of(name))
        for name in ["road", "", "outs", "Out", "abcdefghi"]:
            self.unknown(name, lambda: schema.service_of(name))

    def test_the_order_of_the_keys_has_no_effect(self):
        turned = Schema(*[dict(reversed(thing.items())) for thing in (TABLES, KEYS, SERVICES)])
        schema = made()
        self.assertEqual(turned, schema)
        self.assertEqual(list(turned.tables), list(schema.tables))
        self.assertEqual(list(turned.key_columns), list(schema.key_columns))
        self.assertEqual(list(turned.services), list(schema.services))
        self.assertEqual(turned.table_names(), schema.table_names())
        self.assertEqual(turned.service_names(), schema.service_names())
        self.assertEqual(turned.capped_names(), schema.capped_names())


class EqualTest(SchemaCase):
    def test_equal(self):
        self.assertIs(made() == made(), True)
        self.assertIs(made() != made(), False)
        schema = made()
        self.assertIs(schema == schema, True)

    def test_other_tables(self):
        for tables in [{"road": 3, "town": 3}, {"road": 2}, {"road": 2, "town": 3, "flag": 1}]:
            one = Schema({"road": 2, "town": 3}, {}, EVERY)
            self.assertIs(one == Schema(tables, {}, EVERY), False)
            self.assertIs(one != Schema(tables, {}, EVERY), True)

    def test_other_keys(self):
        for keys in [{}, {"town": (1,)}, {"town": (0, 1)}, {"town": (0,), "road": (0,)}]:
            one = Schema({"road": 2, "town": 3}, {"town": (0,)}, EVERY)
            self.assertIs(one == Schema({"road": 2, "town": 3}, keys, EVERY), False)

    def test_other_services(self):
        one = Schema({"road": 2, "town": 2}, {}, {"out": ("road", (0,), 2)})
        for services in [{"outs": ("road", (0,), 2)}, {"out": ("town", (0,), 2)}, {"out": ("road", (1,), 2)},
                         {"out": ("road", (0,), 1)}, {"out": ("road", (0,), None)},
                         {"out": ("road", (0,), 2), "all": ("road", (), None)}]:
            self.assertIs(one == Schema({"road": 2, "town": 2}, {}, services), False)

    def test_caps_of_whole_services_count(self):
        one = Schema({"road": 2}, {}, {"exact": ("road", (0, 1), 1)})
        other = Schema({"road": 2}, {}, {"exact": ("road", (0, 1), None)})
        self.assertIs(one == other, False)


class UncappedTest(SchemaCase):
    def test_named_services_have_no_cap(self):
        schema = made()
        found = schema.uncapped(["some", "out"])
        expected = {**SERVICES, "some": ("flag", (), None), "out": ("road", (0,), None)}
        self.assertEqual(found, Schema(TABLES, KEYS, expected))
        self.assertEqual(found.services, expected)
        self.assertEqual(found.tables, TABLES)
        self.assertEqual(found.key_columns, KEYS)
        self.assertEqual(found.capped_names(), ["pick"])

    def test_whole_services_lose_their_cap_too(self):
        found = made().uncapped(["named", "all"])
        self.assertEqual(found.service_of("named"), ("town", (0, 1), None))
        self.assertEqual(found.service_of("all"), ("road", (), None))

    def test_no_names_and_all_names(self):
        schema = made()
        self.assertEqual(schema.uncapped([]), schema)
        self.assertIsNot(schema.uncapped([]), schema)
        found = schema.uncapped(schema.service_names())
        self.assertEqual(found.capped_names(), [])
        self.assertEqual([found.service_of(name)[2] for name in SERVICES], [None] * len(SERVICES))

    def test_a_name_that_stands_twice(self):
        schema = made()
        self.assertEqual(schema.uncapped(["out", "out"]), schema.uncapped(["out"]))

    def test_the_first_name_that_is_no_service(self):
        schema = made()
        self.unknown("town", lambda: schema.uncapped(["town"]))
        self.unknown("zz", lambda: schema.uncapped(["out", "zz", "aa"]))
        self.unknown("", lambda: schema.uncapped(["", "zz"]))
        self.unknown("road", lambda: schema.uncapped(["road"]))
        self.assertEqual(schema, made())

    def test_neither_the_schema_nor_the_list_changes(self):
        schema = made()
        names = ["some", "out"]
        found = schema.uncapped(names)
        self.assertEqual(names, ["some", "out"])
        self.assertEqual(schema, made())
        names.append("pick")
        self.assertEqual(found.capped_names(), ["pick"])

    def test_it_can_be_done_again(self):
        schema = made()
        self.assertEqual(schema.uncapped(["out"]).uncapped(["some"]), schema.uncapped(["some", "out"]))


class ChangedByTheCallerTest(SchemaCase):
    def test_arguments_are_not_modified(self):
        arguments = [dict(TABLES), dict(KEYS), dict(SERVICES)]
        orders = [list(thing) for thing in arguments]
        Schema(*arguments)
        self.assertEqual(arguments, [TABLES, KEYS, SERVICES])
        self.assertEqual([list(thing) for thing in arguments], orders)

    def test_arguments_of_a_refused_schema_are_not_modified(self):
        arguments = [{"road": 2}, {"road": (0,)}, {"b": ("road", (1,), 1), "a": ("road", (), 1)}]
        self.refused(*arguments, part="capped", name="b")
        self.assertEqual(arguments, [{"road": 2}, {"road": (0,)},
                                     {"b": ("road", (1,), 1), "a": ("road", (), 1)}])

    def test_later_changes_to_the_arguments(self):
        arguments = [dict(TABLES), dict(KEYS), dict(SERVICES)]
        schema = Schema(*arguments)
        for thing in arguments:
            thing.clear()
            thing["road"] = 9
        self.assertEqual(schema, made())
        self.assertEqual(schema.capped_names(), made().capped_names())
        self.assertEqual(schema.width_of("town"), 3)
        self.assertEqual(schema.key_of("road"), None)

    def test_changes_to_the_dicts_of_the_properties(self):
        schema = made()
        for found in [schema.tables, schema.key_columns, schema.services]:
            found.clear()
            found["road"] = (1,)
        schema.tables["road"] = 4
        schema.key_columns["road"] = (0,)
        del schema.services["out"]
        self.assertEqual(schema, made())
        self.assertEqual(schema.tables, TABLES)
        self.assertEqual(schema.key_columns, KEYS)
        self.assertEqual(schema.services, SERVICES)
        self.assertIs(schema.is_whole("out"), False)

    def test_changes_to_the_lists_of_names(self):
        schema = made()
        for call in [schema.table_names, schema.service_names, schema.capped_names]:
            expected = list(call())
            found = call()
            found.append("more")
            found.reverse()
            self.assertEqual(call(), expected)
        self.assertEqual(schema, made())

    def test_an_uncapped_schema_shares_nothing(self):
        schema = made()
        found = schema.uncapped(["out"])
        found.services["out"] = None
        found.tables.clear()
        found.key_columns.clear()
        self.assertEqual(schema, made())
        self.assertEqual(found, made().uncapped(["out"]))

    def test_an_error_changes_nothing(self):
        schema = made()
        self.unknown("zz", lambda: schema.width_of("zz"))
        self.unknown("zz", lambda: schema.key_of("zz"))
        self.unknown("zz", lambda: schema.service_of("zz"))
        self.unknown("zz", lambda: schema.is_whole("zz"))
        self.unknown("zz", lambda: schema.uncapped(["out", "zz"]))
        self.assertEqual(schema, made())


class InterfaceTest(unittest.TestCase):
    def test_methods_stand_in_the_class_itself(self):
        self.assertEqual(Schema.__module__, "cappedcalls.schemas")
        arguments = {"__init__": ["tables", "keys", "services"], "table_names": [], "service_names": [],
                     "capped_names": [], "width_of": ["table"], "key_of": ["table"],
                     "service_of": ["name"], "is_whole": ["name"], "uncapped": ["names"]}
        for name, expected in arguments.items():
            found = list(inspect.signature(vars(Schema)[name]).parameters)
            self.assertEqual(found[1:], expected, name)
        self.assertIn("__eq__", vars(Schema))

    def test_properties_stand_in_the_class_itself(self):
        for name in ["tables", "key_columns", "services"]:
            self.assertIsInstance(vars(Schema)[name], property)


if __name__ == "__main__":
    unittest.main()
