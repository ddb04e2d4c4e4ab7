"""Points 66 to 68: schemas, stores, programs and questions as lines."""

import inspect
import itertools
import unittest

from cappedcalls import texts as texts_module
from cappedcalls.programs import Program
from cappedcalls.questions import Question
from cappedcalls.schemas import Schema
from cappedcalls.stores import Store
from cappedcalls.texts import program_lines, question_lines, schema_lines, store_lines

GREATEST = 10 ** 30 - 1
NINES = "9" * 30


def made():
    return Schema({"road": 2, "flag": 1}, {}, {"out": ("road", (0,), 2), "flags": ("flag", (), None)})


class SchemaTest(unittest.TestCase):
    def test_example(self):
        schema = Schema({"road": 2, "ab": 3}, {"ab": (0, 2)}, {"some": ("road", (0,), 2), "every": ("ab", (), None)})
        self.assertEqual(schema_lines(schema), ["table ab 3", "table road 2", "key ab 0 2", "service every ab all",
                                                "service some road 2 0"])

    def test_no_keys(self):
        schema = Schema({"a": 1}, {}, {"b": ("a", (), None)})
        self.assertEqual(schema_lines(schema), ["table a 1", "service b a all"])

    def test_columns(self):
        schema = Schema({"a": 4}, {"a": (0, 2, 3)}, {"c": ("a", (0, 1, 2, 3), 4), "b": ("a", (1, 3), None)})
        self.assertEqual(schema_lines(schema), ["table a 4", "key a 0 2 3", "service b a all 1 3", "service c a 4 0 1 2 3"])

    def test_words_that_are_also_words_of_the_lines(self):
        schema = Schema({"table": 2, "key": 2}, {"table": (1,), "key": (0,)},
                        {"all": ("table", (), None), "service": ("key", (), 1)})
        self.assertEqual(schema_lines(schema), ["table key 2", "table table 2", "key key 0", "key table 1",
                                                "service all table all", "service service key 1"])

    def test_any_order_of_the_dicts(self):
        tables = {"road": 2, "ab": 3, "c": 2}
        keys = {"ab": (0, 2), "road": (1,), "c": (0,)}
        services = {"x": ("road", (0,), 2), "w": ("ab", (), None), "v": ("c", (0, 1), None)}
        expected = ["table ab 3", "table c 2", "table road 2", "key ab 0 2", "key c 0", "key road 1", "service v c all 0 1",
                    "service w ab all", "service x road 2 0"]
        for order in itertools.permutations(range(3)):
            dicts = [{list(one)[at]: one[list(one)[at]] for at in order} for one in (tables, keys, services)]
            self.assertEqual(schema_lines(Schema(*dicts)), expected)


class StoreTest(unittest.TestCase):
    def test_rows_of_all_tables(self):
        store = Store(made(), {"road": [("b", 1), (10, "a"), (2, -3), (2, -30), ("a", 0)], "flag": [("road",), (7,)]})
        self.assertEqual(store_lines(store), ["flag 7", "flag road", "road 2 -30", "road 2 -3", "road 10 a", "road a 0",
                                              "road b 1"])

    def test_no_rows(self):
        self.assertEqual(store_lines(Store(made(), {})), [])

    def test_values(self):
        store = Store(made(), {"flag": [(GREATEST,), (-GREATEST,), (0,), (-1,), ("all",), ("abcdefgh",)]})
        self.assertEqual(store_lines(store), [f"flag -{NINES}", "flag -1", "flag 0", f"flag {NINES}", "flag abcdefgh",
                                              "flag all"])


class ProgramTest(unittest.TestCase):
    def lines(self, *steps):
        return program_lines(Program(made(), [("start", "s"), *steps]))

    def test_each_form(self):
        found = self.lines(("call", "a", "s", "out", ((1,),)), ("call", "b", "a", "out", (1,)), ("both", "c", "a", "a"),
                           ("pair", "d", "c", "b"), ("where", "e", "d", 4, 1), ("where", "f", "e", 0, ("x",)),
                           ("take", "g", "f", (3, (-7,), 0)), ("take", "h", "g", ()), ("call", "i", "h", "flags", ()))
        self.assertEqual(found, ["start s", "call a s out =1", "call b a out #1", "both c a a", "pair d c b",
                                 "where e d 4 #1", "where f e 0 =x", "take g f #3 =-7 #0", "take h g", "call i h flags"])

    def test_words_that_are_also_words_of_the_lines(self):
        found = program_lines(Program(made(), [("start", "start"), ("call", "call", "start", "out", (("take",),)),
                                               ("both", "both", "call", "call"), ("take", "take", "both", (("all",),))]))
        self.assertEqual(found, ["start start", "call call start out =take", "both both call call", "take take both =all"])

    def test_values(self):
        found = self.lines(("take", "t", "s", ((GREATEST,), (-GREATEST,), (0,), (-1,), ("abcdefgh",))))
        self.assertEqual(found[1], f"take t s ={NINES} =-{NINES} =0 =-1 =abcdefgh")

    def test_great_indexes(self):
        found = self.lines(("take", "t", "s", ((1,),) * 12), ("where", "w", "t", 11, 10))
        self.assertEqual(found[2], "where w t 11 #10")


class QuestionTest(unittest.TestCase):
    def lines(self, width, *parts):
        return question_lines(Question(made(), width, list(parts)))

    def test_parts_and_atoms(self):
        found = self.lines(2, (((3,), "w"), [("road", ((3,), -7)), ("flag", ((0,),))]), ((5, "x"), []),
                           ((1, 2), [("road", ("a", "b"))]))
        self.assertEqual(found, ["question 2", "part ?3 w", "atom road ?3 -7", "atom flag ?0", "part 5 x", "part 1 2",
                                 "atom road a b"])

    def test_nothing_behind_the_named_words(self):
        self.assertEqual(self.lines(0), ["question 0"])
        self.assertEqual(self.lines(12), ["question 12"])
        self.assertEqual(self.lines(0, ((), []), ((), [])), ["question 0", "part", "part"])

    def test_the_order_of_parts_and_atoms(self):
        found = self.lines(0, ((), [("road", (2, 1)), ("flag", (9,)), ("road", (1, 1))]), ((), []))
        self.assertEqual(found, ["question 0", "part", "atom road 2 1", "atom flag 9", "atom road 1 1", "part"])

    def test_values_and_variables(self):
        found = self.lines(4, ((GREATEST, -GREATEST, 0, "part"), [("road", ((GREATEST,), "question"))]))
        self.assertEqual(found, ["question 4", f"part {NINES} -{NINES} 0 part", f"atom road ?{NINES} question"])


class SharingTest(unittest.TestCase):
    """Points 2 and 78."""

    def test_changes_to_lines(self):
        schema = made()
        things = [(schema_lines, schema), (store_lines, Store(schema, {"flag": [(1,)]})),
                  (program_lines, Program(schema, [("start", "s")])), (question_lines, Question(schema, 0, [((), [])]))]
        for function, thing in things:
            found = function(thing)
            expected = list(found)
            self.assertIs(type(found), list)
            found.clear()
            self.assertEqual(function(thing), expected)


class InterfaceTest(unittest.TestCase):
    def test_names_and_arguments(self):
        for name in ["schema", "store", "program", "question"]:
            function = getattr(texts_module, name + "_lines")
            self.assertEqual(list(inspect.signature(function).parameters), [name])
            self.assertEqual(function.__module__, "cappedcalls.texts")


if __name__ == "__main__":
    unittest.main()
