"""Points 66 and 69 to 71: lines read back."""

import inspect
import random
import unittest

from cappedcalls import reading as reading_module
from cappedcalls.errors import InvalidLine, InvalidProgram, InvalidQuestion, InvalidSchema, InvalidStore, LimitExceeded
from cappedcalls.programs import Program
from cappedcalls.reading import read_program, read_question, read_schema, read_store
from cappedcalls.schemas import Schema
from cappedcalls.stores import Store
from cappedcalls.texts import program_lines, question_lines, schema_lines, store_lines
from makers import random_program, random_question, random_schema, random_store

GREATEST = 10 ** 30 - 1
NINES = "9" * 30
NO_NAMES = ["", "A", "aB", "abcdefghi", "a1", "1", "-", "a-", "?1", "#1", "=a", "a\n", "\ta", "\u00e4", "_", "a."]
NO_NUMBERS = ["", "00", "01", "-1", "-0", "+1", "1" * 31, "a", "1.0", "1_0", "?1", "#1", "=1", "\u0663", "\u00b2", "\uff11",
              "1\n", "0x1", "1e3", "--1", "-"]
NO_VALUES = ["", "-0", "-00", "-01", "00", "01", "+1", "1" * 31, "-" + "1" * 31, "-", "--1", "-a", "A", "abcdefghi", "a1",
             "1a", "?1", "#1", "=1", "\u0663", "-\u0663", "a-", "1-", "1\n", "\u00df"]
NO_TERMS = [text for text in NO_VALUES if text != "?1"] + ["?", "?a", "?-1", "?01", "?00", "??1", "?" + "1" * 31, "?+1", "1?"]
NO_ITEMS = [text for text in NO_VALUES if text not in ("#1", "=1")] + [
    "1", "-1", "a", "#", "=", "#a", "#-1", "#01", "##1", "#" + "1" * 31, "==1", "=-0", "=01", "=A", "=?1", "=#1", "#=1", "=+1",
    "=" + "1" * 31, "=abcdefghi", "=-"]


def made():
    return Schema({"road": 2, "flag": 1}, {}, {"out": ("road", (0,), 2), "flags": ("flag", (), None)})


class ReadingCase(unittest.TestCase):
    def refused(self, lines, at):
        before = list(lines)
        with self.assertRaises(InvalidLine) as caught:
            self.read(lines)
        self.assertEqual(caught.exception.at, at, lines[:20])
        self.assertEqual(lines, before)

    def wrong(self, line, *before):
        """Check that a line is refused behind these ones, also with right and wrong lines behind it."""
        self.refused([*before, line], len(before))
        self.refused([*before, line, "", line], len(before))

    def wrong_blanks(self, line, *before):
        self.wrong("", *before)
        self.wrong(" ", *before)
        self.wrong(" " + line, *before)
        self.wrong(line + " ", *before)
        self.wrong(line.replace(" ", "  ", 1) if " " in line else line + "  ", *before)
        self.wrong(line + "\n", *before)
        self.wrong(line.replace(" ", "\t", 1) if " " in line else "\t" + line, *before)


class SchemaTest(ReadingCase):
    good = ["table ab 3", "table road 2", "key ab 0 2", "service every ab all", "service some road 2 0"]

    def read(self, lines):
        return read_schema(lines)

    def test_good(self):
        expected = Schema({"road": 2, "ab": 3}, {"ab": (0, 2)}, {"some": ("road", (0,), 2), "every": ("ab", (), None)})
        self.assertEqual(read_schema(self.good), expected)
        for order in [[1, 0, 2, 3, 4], [0, 1, 2, 4, 3], [1, 0, 2, 4, 3]]:
            self.assertEqual(read_schema([self.good[at] for at in order]), expected)

    def test_no_line(self):
        with self.assertRaises(InvalidSchema) as caught:
            read_schema([])
        self.assertEqual((caught.exception.part, caught.exception.name), ("tables", None))

    def test_words_that_are_also_words_of_the_lines(self):
        schema = read_schema(["table key 2", "table all 1", "key key 0", "service table key 1", "service all all all"])
        expected = Schema({"key": 2, "all": 1}, {"key": (0,)}, {"table": ("key", (), 1), "all": ("all", (), None)})
        self.assertEqual(schema, expected)

    def test_blanks(self):
        for at, line in enumerate(self.good):
            self.wrong_blanks(line, *self.good[:at])

    def test_kinds(self):
        for line in ["tables a 1", "Table a 1", "a", "road 1 2", "question 1", "start s", "TABLE a 1", "1"]:
            self.wrong(line)
            self.wrong(line, *self.good)

    def test_words_less_and_more(self):
        for line in ["table", "table a", "table a 1 1", "table a 1 a"]:
            self.wrong(line)
        for line in ["key", "key ab", "service", "service a", "service a ab"]:
            self.wrong(line, *self.good[:2])

    def test_names(self):
        for name in NO_NAMES:
            self.wrong(f"table {name} 1")
            self.wrong(f"key {name} 1", "table a 2")
            self.wrong(f"service {name} a all", "table a 2")
            self.wrong(f"service b {name} all", "table a 2")

    def test_numbers(self):
        for number in NO_NUMBERS:
            self.wrong(f"table a {number}")
            self.wrong(f"key a {number}", "table a 2")
            self.wrong(f"key a 0 {number}", "table a 2")
            self.wrong(f"service b a all {number}", "table a 2")
            self.wrong(f"service b a 2 0 {number}", "table a 2")
            self.wrong(f"service b a {number}", "table a 2")
        for cap in ["All", "al", "alls", "none", "None", "-all"]:
            self.wrong(f"service b a {cap}", "table a 2")

    def test_later_kinds_before(self):
        self.refused(["table a 2", "key a 0", "table b 2", "service c a all"], 2)
        self.refused(["table a 2", "service c a all", "key a 0"], 2)
        self.refused(["table a 2", "service c a all", "table b 2"], 2)
        self.refused(["key a 0", "table a 2", "service c a all"], 1)
        self.refused(["service c a all", "table a 2"], 1)

    def test_a_name_twice(self):
        self.refused(["table a 2", "table b 1", "table a 2"], 2)
        self.refused(["table a 2", "key a 0", "key a 1"], 2)
        self.refused(["table a 2", "service c a all", "service c a 1"], 2)
        self.assertEqual(read_schema(["table a 2", "key a 0", "service a a all"]).service_names(), ["a"])

    def test_the_first_of_several_wrong_lines(self):
        self.refused(["table a 1", "table a 1", "", "key"], 1)
        self.refused(["", "table a 1", "table a 1"], 0)
        # A line without form comes before what the constructor raises.
        self.refused(["table a 9", "key b 1", "service"], 2)

    def test_what_the_constructor_raises(self):
        rest = ["service s a all"]
        for lines, part, name in [
                (["table a 5", *rest], "tables", "a"), (["table a 0", *rest], "tables", "a"),
                (["table a " + NINES, *rest], "tables", "a"), (["table b 9", "table a 9", *rest], "tables", "a"),
                (rest, "tables", None), ([f"table {name} 1" for name in "abcdef"] + rest, "tables", None),
                (["table a 2", "key b 0", *rest], "keys", "b"), (["table a 2", "key a 0 1", *rest], "keys", "a"),
                (["table a 3", "key a 1 0", *rest], "keys", "a"), (["table a 3", "key a 0 0", *rest], "keys", "a"),
                (["table a 2", "key a 2", *rest], "keys", "a"), (["table a 1"], "services", None),
                (["table a 1", *[f"service {name} a all" for name in "abcdefghi"]], "services", None),
                (["table a 1", "service s b all"], "services", "s"), (["table a 1", "service s a 0"], "services", "s"),
                (["table a 1", "service s a 5"], "services", "s"), (["table a 1", "service s a 1 1"], "services", "s"),
                (["table a 2", "service s a 1 1 0"], "services", "s"),
                (["table a 2", "service s a 1", "service r a 2"], "capped", "s")]:
            with self.assertRaises(InvalidSchema) as caught:
                read_schema(lines)
            self.assertEqual((caught.exception.part, caught.exception.name), (part, name), lines)


class StoreTest(ReadingCase):
    def read(self, lines):
        return read_store(made(), lines)

    def test_good(self):
        lines = ["road b 1", "flag 7", "road 2 -3", f"flag -{NINES}", f"flag {NINES}", "flag 0", "flag all"]
        rows = {"road": [(2, -3), ("b", 1)], "flag": [(7,), (-GREATEST,), (GREATEST,), (0,), ("all",)]}
        self.assertEqual(self.read(lines), Store(made(), rows))
        self.assertEqual(self.read([]), Store(made(), {}))

    def test_tables_called_like_kinds(self):
        schema = Schema({"table": 1, "atom": 2}, {}, {"a": ("table", (), None)})
        lines = ["atom part question", "table all"]
        self.assertEqual(read_store(schema, lines), Store(schema, {"table": [("all",)], "atom": [("part", "question")]}))

    def test_blanks(self):
        self.wrong_blanks("road 1 2", "flag 1")

    def test_words(self):
        self.wrong("road")
        self.wrong("nothing")
        for name in NO_NAMES:
            self.wrong(f"{name} 1", "flag 1")
        for value in NO_VALUES:
            self.wrong(f"flag {value}", "flag 1")
            self.wrong(f"road 1 {value}", "flag 1")
            self.wrong(f"road {value} 1", "flag 1")

    def test_the_first_of_several_wrong_lines(self):
        self.refused(["no 1", "flag 1", "flag 1", "flag -0", "", "flag"], 3)

    def test_what_the_constructor_raises(self):
        for lines, table, at in [(["no 1"], "no", None), (["flag 1", "road 1", "no 1"], "no", None),
                                 (["road 1 2", "flag 1", "road 1 2"], "road", 1), (["flag 1 2"], "flag", 0),
                                 (["road 1 2", "flag 1", "flag 1", "road 1"], "flag", 1),
                                 (["road 1 2", "flag 1", "road 1"], "road", 1)]:
            with self.assertRaises(InvalidStore) as caught:
                self.read(lines)
            self.assertEqual((caught.exception.table, caught.exception.at), (table, at), lines)

    def test_the_order_of_the_lines(self):
        schema = Schema({"road": 2}, {"road": (0,)}, {"a": ("road", (), None)})
        for lines, at in [(["road 5 1", "road 1 1", "road 5 2"], 2), (["road 5 2", "road 5 1", "road 1 1"], 1)]:
            with self.assertRaises(InvalidStore) as caught:
                read_store(schema, lines)
            self.assertEqual(caught.exception.at, at)

    def test_400_and_401_lines(self):
        lines = [f"road {at} 1" for at in range(200)] + [f"flag {at}" for at in range(200)]
        self.assertEqual(len(self.read(lines)), 400)
        with self.assertRaises(LimitExceeded) as caught:
            self.read([*lines, "flag a"])
        self.assertEqual(caught.exception.limit, 400)
        self.refused([*lines, "flag a", "flag A"], 401)


class ProgramTest(ReadingCase):
    good = ["start s", "call a s out =1", "call b a out #1", "both c a a", "pair d c b", "where e d 4 #1", "where f e 0 =x",
            "take g f #3 =-7 #0", "take h g", "call i h flags"]

    def read(self, lines):
        return read_program(made(), lines)

    def test_good(self):
        steps = [("start", "s"), ("call", "a", "s", "out", ((1,),)), ("call", "b", "a", "out", (1,)), ("both", "c", "a", "a"),
                 ("pair", "d", "c", "b"), ("where", "e", "d", 4, 1), ("where", "f", "e", 0, ("x",)),
                 ("take", "g", "f", (3, (-7,), 0)), ("take", "h", "g", ()), ("call", "i", "h", "flags", ())]
        self.assertEqual(self.read(self.good).step_list(), steps)
        self.assertEqual(self.read(self.good), Program(made(), steps))

    def test_words_that_are_also_words_of_the_lines(self):
        steps = [("start", "start"), ("call", "call", "start", "out", (("take",),)), ("take", "take", "call", (("all",),))]
        self.assertEqual(self.read(["start start", "call call start out =take", "take take call =all"]).step_list(), steps)

    def test_blanks(self):
        for at, line in enumerate(self.good):
            self.wrong_blanks(line, *self.good[:at])

    def test_kinds(self):
        for line in ["Start s", "begin s", "s", "table a 1", "question 0", "part", "atom road", "starts s", "1"]:
            self.wrong(line)
            self.wrong(line, *self.good)

    def test_words_less_and_more(self):
        for line in ["start", "start s s", "call", "call a", "call a s", "both", "both c", "both c a", "both c a a a",
                     "pair d c", "pair d c b b", "where", "where e", "where e d", "where e d 4", "where e d 4 #1 #1", "take",
                     "take g"]:
            self.wrong(line)

    def test_names(self):
        for name in NO_NAMES:
            for line in ["start {}", "call {} s out", "call a {} out", "call a s {}", "both {} a a", "both a {} a",
                         "both a a {}", "pair {} a a", "pair a {} a", "pair a a {}", "where {} a 0 #0", "where a {} 0 #0",
                         "take {} a", "take a {}"]:
                self.wrong(line.format(name), "start s")

    def test_indexes_and_items(self):
        for number in NO_NUMBERS:
            self.wrong(f"where a s {number} #0", "start s")
        for item in NO_ITEMS:
            for line in ["where a s 0 {}", "take a s {}", "take a s #0 {}", "take a s {} =1", "call a s out {}",
                         "call a s out =1 {}"]:
                self.wrong(line.format(item), "start s")

    def test_the_first_of_several_wrong_lines(self):
        self.refused(["start s", "start s", "call a b c", "start", ""], 3)

    def test_what_the_constructor_raises(self):
        for lines, part, at in [([], "steps", None), (["start s"] * 13, "steps", None), (["start s", "start s"], "name", 1),
                                (["call a s out"], "name", 0), (["start s", "call a s no"], "name", 1),
                                (["start s", "call a s out"], "items", 1), (["start s", "take a s #0"], "items", 1),
                                (["start s", f"take a s #{NINES}"], "items", 1),
                                (["start s", "where a s 0 =1"], "items", 1),
                                (["start s", "take a s =1", "both b s a"], "width", 2),
                                (["start s", "take a s" + " =1" * 13], "width", 1),
                                (["start s"] + [f"both {name} {last} {last}" for last, name in zip("sabcd", "abcde")],
                                 "limit", 5)]:
            with self.assertRaises(InvalidProgram) as caught:
                self.read(lines)
            self.assertEqual((caught.exception.part, caught.exception.at), (part, at), lines)


class QuestionTest(ReadingCase):
    def read(self, lines):
        return read_question(made(), lines)

    def test_examples(self):
        schema = Schema({"road": 2}, {}, {"roads": ("road", (0,), None)})
        found = read_question(schema, ["question 1", "part ?3", "atom road ?3 -7", "part w"])
        self.assertEqual(found.part_list(), [(((3,),), [("road", ((3,), -7))]), (("w",), [])])
        with self.assertRaises(InvalidLine) as caught:
            read_question(schema, ["question 1", "part ?03"])
        self.assertEqual(caught.exception.at, 1)

    def test_good(self):
        found = self.read(["question 2", "part ?0 x", f"atom road ?0 ?{NINES}", "atom flag -7", "part 5 x", "part 1 2",
                           "atom road part question"])
        self.assertEqual((found.schema, found.width), (made(), 2))
        self.assertEqual(found.part_list(), [
            (((0,), "x"), [("road", ((0,), (GREATEST,))), ("flag", (-7,))]), ((5, "x"), []),
            ((1, 2), [("road", ("part", "question"))])])

    def test_nothing_behind_the_named_words(self):
        self.assertEqual(self.read(["question 0"]).part_list(), [])
        self.assertEqual(self.read(["question 0", "part", "part"]).part_list(), [((), []), ((), [])])

    def test_no_line(self):
        self.refused([], 0)

    def test_blanks(self):
        lines = ["question 1", "part 1", "atom flag ?1"]
        for at, line in enumerate(lines):
            self.wrong_blanks(line, *lines[:at])
        self.wrong_blanks("part", "question 0")

    def test_the_line_of_the_question(self):
        for line in ["part", "part 1", "atom flag 1", "table a 1", "Question 1", "questions 1", "question", "question 1 1", "1"]:
            self.wrong(line)
        for number in NO_NUMBERS:
            self.wrong(f"question {number}")
        self.refused(["question 0", "question 0"], 1)
        self.refused(["question 0", "part", "question 0", ""], 2)
        self.refused(["part", "question 0"], 0)

    def test_an_atom_before_the_first_part(self):
        self.refused(["question 0", "atom flag 1", "part"], 1)

    def test_kinds(self):
        for line in ["parts", "Part", "atoms flag 1", "start s", "flag 1", "?1", "table a 1"]:
            self.wrong(line, "question 0", "part")

    def test_words(self):
        self.wrong("atom", "question 0", "part")
        for name in NO_NAMES:
            self.wrong(f"atom {name} 1", "question 0", "part")
            self.wrong(f"atom {name}", "question 0", "part")
        for term in NO_TERMS:
            self.wrong(f"part {term}", "question 0")
            self.wrong(f"part 1 {term}", "question 0")
            self.wrong(f"atom road {term} 1", "question 0", "part")
            self.wrong(f"atom road ?1 {term}", "question 0", "part")

    def test_the_first_of_several_wrong_lines(self):
        self.refused(["question 99", "part 1", "atom no ?1", "part ?", "atom"], 3)

    def test_what_the_constructor_raises(self):
        for lines, part, at in [(["question 13"], "width", -1), (["question " + NINES], "width", -1),
                                (["question 0"] + ["part"] * 4001, "parts", -1), (["question 1", "part"], "head", 0),
                                (["question 0", "part", "part", "part 1"], "head", 2),
                                (["question 0", "part", *["atom flag 1"] * 6], "form", 0),
                                (["question 0", "part", "atom no 1"], "table", 0),
                                (["question 0", "part", "atom road"], "terms", 0),
                                (["question 0", "part", "atom road 1"], "terms", 0),
                                (["question 0", "part", "part", "atom flag 1 2"], "terms", 1),
                                (["question 1", "part ?1", "atom flag ?2"], "unsafe", 0)]:
            with self.assertRaises(InvalidQuestion) as caught:
                self.read(lines)
            self.assertEqual((caught.exception.part, caught.exception.at), (part, at), lines[:9])

    def test_4000_parts(self):
        self.assertEqual(len(self.read(["question 0"] + ["part"] * 4000).part_list()), 4000)


class BackTest(unittest.TestCase):
    """Point 71."""

    def test_random_objects(self):
        generator = random.Random(71)
        for _ in range(120):
            schema = random_schema(generator)
            self.assertEqual(read_schema(schema_lines(schema)), schema)
            store = random_store(generator, schema, 8, (1, -2, 30, "x", "abcdefgh", GREATEST, -GREATEST, 0))
            self.assertEqual(read_store(schema, store_lines(store)), store)
            program = random_program(generator, schema)
            self.assertEqual(read_program(schema, program_lines(program)), program)
            question = random_question(generator, schema, generator.randint(0, 4), 5, 5)
            found = read_question(schema, question_lines(question))
            self.assertEqual((found.width, found.part_list()), (question.width, question.part_list()))
            self.assertEqual(question_lines(found), question_lines(question))

    def test_the_order_within_a_kind(self):
        generator = random.Random(72)
        for _ in range(40):
            schema = random_schema(generator)
            lines = schema_lines(schema)
            generator.shuffle(lines)
            kinds = ["table", "key", "service"]
            self.assertEqual(read_schema(sorted(lines, key=lambda line: kinds.index(line.split()[0]))), schema)
            store = random_store(generator, schema)
            lines = store_lines(store)
            generator.shuffle(lines)
            self.assertEqual(read_store(schema, lines), store)


class SharingTest(unittest.TestCase):
    """Points 2 and 78."""

    def test_the_lines_are_not_modified_and_later_changes_have_no_effect(self):
        schema = made()
        things = [(lambda lines: schema_lines(read_schema(lines)), ["table a 1", "service b a all"]),
                  (lambda lines: store_lines(read_store(schema, lines)), ["flag 1", "road 1 2"]),
                  (lambda lines: program_lines(read_program(schema, lines)), ["start s", "take a s =1"]),
                  (lambda lines: question_lines(read_question(schema, lines)), ["question 0", "part", "atom flag 1"])]
        for read_and_write, lines in things:
            before = list(lines)
            self.assertEqual(read_and_write(lines), before)
            self.assertEqual(lines, before)
        lines = ["question 0", "part", "atom flag 1"]
        question = read_question(schema, lines)
        lines.clear()
        self.assertEqual(question.part_list(), [((), [("flag", (1,))])])


class InterfaceTest(unittest.TestCase):
    def test_names_and_arguments(self):
        arguments = {"read_schema": ["lines"], "read_store": ["schema", "lines"], "read_program": ["schema", "lines"],
                     "read_question": ["schema", "lines"]}
        for name, expected in arguments.items():
            function = getattr(reading_module, name)
            self.assertEqual(list(inspect.signature(function).parameters), expected)
            self.assertEqual(function.__module__, "cappedcalls.reading")


if __name__ == "__main__":
    unittest.main()
