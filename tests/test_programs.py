"""Points 2, 9, 16 to 18 and 28: programs."""

import inspect
import itertools
import random
import unittest

from cappedcalls.errors import InvalidProgram
from cappedcalls.programs import Program
from cappedcalls.schemas import Schema
from makers import random_program, random_schema

GREATEST = 10 ** 30 - 1
TABLES = {"road": 2, "town": 3, "flag": 1, "wide": 4}
SERVICES = {"out": ("road", (0,), 1), "all": ("road", (), None), "exact": ("road", (0, 1), None),
            "town": ("town", (1, 2), 2), "flags": ("flag", (), 3), "wide": ("wide", (), None)}
NO_WORDS = [None, 1, "", "A", "a1", "abcdefghi", "\u00e9", (), ("s",), [], ["s"]]
NO_VALUES = [True, False, None, "", "A", "abcdefghi", GREATEST + 1, -GREATEST - 1, (), (1,), [], [1]]
NO_ITEMS = [True, False, None, "a", -1, -GREATEST, (), (1, 2), ("a", "b"), [], [1], ((1,),), (True,), (None,),
            ("A",), (GREATEST + 1,), (-GREATEST - 1,), ([1],), ((),)]
NO_INDEXES = [True, False, None, "a", -1, (), (1,), (0,), [], [0]]
# Relations of the widths 0, 2 and 4, for one more step behind them.
START = ("start", "s")
BEFORE = [START, ("call", "c", "s", "all", ()), ("pair", "d", "c", "c")]


def made():
    return Schema(TABLES, {}, SERVICES)


def sizes(steps):
    program = Program(made(), steps)
    return program.width, program.part_count, program.call_count


class ProgramCase(unittest.TestCase):
    def refused(self, steps, part, at, schema=None):
        with self.assertRaises(InvalidProgram) as caught:
            Program(schema or made(), steps)
        self.assertEqual((caught.exception.part, caught.exception.at), (part, at), steps)

    def last(self, step, part):
        self.refused([*BEFORE, step], part, len(BEFORE))


class ExamplesTest(ProgramCase):
    def setUp(self):
        self.schema = Schema({"road": 2}, {}, {"out": ("road", (0,), 1)})

    def test_first_example(self):
        steps = [("start", "s"), ("call", "c", "s", "out", ((1,),)), ("call", "d", "c", "out", (1,)),
                 ("both", "e", "d", "d")]
        program = Program(self.schema, steps)
        self.assertEqual([program.width, program.part_count, program.call_count], [4, 2, 2])

    def test_second_example(self):
        self.refused([("start", "s"), ("call", "c", "s", "out", (0,))], "items", 1, self.schema)


class SizesTest(ProgramCase):
    def test_each_form(self):
        self.assertEqual(sizes([START]), (0, 1, 0))
        self.assertEqual(sizes(BEFORE[:2]), (2, 1, 1))
        self.assertEqual(sizes(BEFORE), (4, 1, 2))
        self.assertEqual(sizes([*BEFORE, ("both", "e", "d", "d")]), (4, 2, 2))
        self.assertEqual(sizes([*BEFORE, ("where", "e", "d", 3, 0)]), (4, 1, 2))
        self.assertEqual(sizes([*BEFORE, ("take", "e", "d", (3, (1,), 3))]), (3, 1, 2))
        self.assertEqual(sizes([*BEFORE, ("take", "e", "d", ())]), (0, 1, 2))
        self.assertEqual(sizes([*BEFORE, ("call", "e", "d", "town", (3, ("a",)))]), (7, 1, 3))

    def test_parts_and_calls(self):
        steps = [*BEFORE, ("take", "e", "d", (0, 1)), ("both", "f", "e", "c"), ("pair", "g", "f", "c"),
                 ("both", "h", "f", "f"), ("pair", "i", "h", "f"), ("where", "j", "i", 0, 1),
                 ("take", "k", "j", (1,))]
        expected = [(2, 1, 2), (2, 2, 2), (4, 2, 3), (2, 4, 2), (4, 8, 4), (4, 8, 4), (1, 8, 4)]
        found = [sizes(steps[:many]) for many in range(4, len(steps) + 1)]
        self.assertEqual(found, expected)

    def test_both_takes_the_greater_number_of_calls(self):
        steps = [*BEFORE, ("take", "e", "d", (0, 1))]
        self.assertEqual(sizes([*steps, ("both", "f", "e", "c")])[2], 2)
        self.assertEqual(sizes([*steps, ("both", "f", "c", "e")])[2], 2)
        self.assertEqual(sizes([*steps, ("pair", "f", "c", "e")])[2], 3)

    def test_sizes_are_those_of_the_last_step(self):
        self.assertEqual(sizes([*BEFORE, ("both", "e", "s", "s")]), (0, 2, 0))

    def test_numbers_come_from_the_form_alone(self):
        steps = [*BEFORE[:2], ("where", "d", "c", 0, (1,)), ("where", "e", "d", 0, (2,)), ("both", "f", "e", "e")]
        self.assertEqual(sizes(steps), (2, 2, 1))

    def test_the_same_relation_twice(self):
        self.assertEqual(sizes([*BEFORE, ("both", "e", "c", "c")]), (2, 2, 1))
        self.assertEqual(sizes([START, ("pair", "a", "s", "s")]), (0, 1, 0))


class NumberOfStepsTest(ProgramCase):
    def test_every_number(self):
        for many in range(16):
            steps = [("start", "s" + "abcdefghijklmnop"[at]) for at in range(many)]
            if 1 <= many <= 12:
                self.assertEqual(Program(made(), steps).step_list(), steps)
            else:
                self.refused(steps, "steps", None)

    def test_it_comes_before_the_steps(self):
        self.refused([None] * 13, "steps", None)
        self.refused([None] * 12, "form", 0)


class FormTest(ProgramCase):
    def test_steps_that_are_no_tuples(self):
        for thing in [None, 1, "start", "s", [], ["start", "s"], ["call", "e", "c", "out", (0,)]]:
            self.last(thing, "form")

    def test_first_things(self):
        for thing in [None, 0, True, "", "Start", "calls", "join", (), ("start",), [], ["start"]]:
            self.last((thing, "e"), "form")
            self.last((thing, "e", "c", "out", (0,)), "form")
            self.last((thing, "e", "c", "d"), "form")

    def test_the_number_of_things(self):
        steps = [("start", "e"), ("call", "e", "c", "out", (0,)), ("both", "e", "c", "c"), ("pair", "e", "c", "c"),
                 ("where", "e", "c", 0, 1), ("take", "e", "c", (0,))]
        for step in steps:
            Program(made(), [*BEFORE, step])
            for many in range(1, len(step)):
                self.last(step[:many], "form")
            for more in ["c", (), None, 0]:
                self.last((*step, more), "form")
        self.last((), "form")

    def test_names_that_are_no_words(self):
        for name in NO_WORDS:
            for step in [("start", name), ("call", name, "c", "out", (0,)), ("call", "e", name, "out", (0,)),
                         ("call", "e", "c", name, (0,)), ("both", name, "c", "c"), ("both", "e", name, "c"),
                         ("both", "e", "c", name), ("pair", name, "c", "c"), ("pair", "e", name, "c"),
                         ("pair", "e", "c", name), ("where", name, "c", 0, 1), ("where", "e", name, 0, 1),
                         ("take", name, "c", (0,)), ("take", "e", name, (0,))]:
                self.last(step, "form")

    def test_items_that_are_no_tuple(self):
        for thing in [None, 0, 1, "", "a", [], [0], [(1,)]]:
            self.last(("call", "e", "c", "out", thing), "form")
            self.last(("take", "e", "c", thing), "form")

    def test_things_that_are_no_items(self):
        for thing in NO_ITEMS:
            self.last(("call", "e", "c", "out", (thing,)), "form")
            self.last(("call", "e", "c", "exact", (0, thing)), "form")
            self.last(("take", "e", "c", (thing,)), "form")
            self.last(("take", "e", "c", (0, (1,), thing)), "form")
            self.last(("where", "e", "c", 0, thing), "form")

    def test_values_of_items(self):
        for value in [0, -1, GREATEST, -GREATEST, "a", "abcdefgh"]:
            for step in [("call", "e", "c", "out", ((value,),)), ("take", "e", "c", ((value,), 1)),
                         ("where", "e", "c", 0, (value,))]:
                self.assertEqual(Program(made(), [*BEFORE, step]).step_list()[-1], step)
        for value in NO_VALUES:
            self.last(("take", "e", "c", ((value,),)), "form")

    def test_things_that_are_no_index(self):
        for thing in NO_INDEXES:
            self.last(("where", "e", "c", thing, 0), "form")
            self.last(("where", "e", "c", thing, (1,)), "form")


class NameTest(ProgramCase):
    def test_names_that_an_earlier_step_gave(self):
        for name in ["s", "c", "d"]:
            for step in [("start", name), ("call", name, "c", "out", (0,)), ("both", name, "c", "c"),
                         ("pair", name, "c", "c"), ("where", name, "c", 0, 1), ("take", name, "c", (0,))]:
                self.last(step, "name")

    def test_names_that_no_earlier_step_gave(self):
        for name in ["e", "z", "out", "road", "start"]:
            for step in [("call", "e", name, "out", (0,)), ("both", "e", name, "c"), ("both", "e", "c", name),
                         ("pair", "e", name, "c"), ("pair", "e", "c", name), ("where", "e", name, 0, 1),
                         ("take", "e", name, (0,))]:
                self.last(step, "name")

    def test_a_later_step(self):
        self.refused([START, ("take", "a", "b", ()), ("start", "b")], "name", 1)

    def test_services(self):
        for name in ["c", "road", "zz", "outs"]:
            self.last(("call", "e", "c", name, (0,)), "name")

    def test_names_of_services_and_forms_may_be_given(self):
        steps = [("start", "start"), ("call", "out", "start", "out", ((1,),)), ("take", "road", "out", (1,))]
        self.assertEqual(Program(made(), steps).width, 1)


class ItemsTest(ProgramCase):
    def test_one_item_for_each_given_column(self):
        for service, (_, given, _) in SERVICES.items():
            for many in range(5):
                step = ("call", "e", "s", service, ((1,),) * many)
                if many == len(given):
                    self.assertEqual(Program(made(), [START, step]).call_count, 1)
                else:
                    self.refused([START, step], "items", 1)

    def test_indexes_below_the_width(self):
        for name, width in [("s", 0), ("c", 2), ("d", 4)]:
            for at in range(6):
                steps = [("call", "e", name, "out", (at,)), ("call", "e", name, "exact", ((1,), at)),
                         ("take", "e", name, (at,)), ("take", "e", name, ((1,), (2,), at)),
                         ("where", "e", name, at, (1,)), ("where", "e", name, at, at)]
                if width:
                    steps.append(("where", "e", name, 0, at))
                for step in steps:
                    if at < width:
                        Program(made(), [*BEFORE, step])
                    else:
                        self.last(step, "items")
        self.last(("take", "e", "d", (GREATEST,)), "items")

    def test_values_are_not_measured(self):
        Program(made(), [START, ("take", "e", "s", ((7,), ("a",)))])


class WidthTest(ProgramCase):
    def test_widths_of_both(self):
        self.last(("both", "e", "c", "d"), "width")
        self.last(("both", "e", "d", "c"), "width")
        self.last(("both", "e", "s", "c"), "width")

    def test_width_12_and_13(self):
        steps = [*BEFORE, ("pair", "e", "d", "d"), ("take", "f", "e", tuple(range(8)))]
        self.assertEqual(sizes([*steps, ("call", "g", "d", "wide", ()), ("take", "h", "g", (0,) * 12)])[0], 12)
        self.refused([*steps, ("take", "g", "f", (0,) * 13)], "width", 5)
        self.refused([*steps, ("take", "g", "f", ((1,),) * 13)], "width", 5)

    def test_width_12_and_13_of_a_call(self):
        for many, right in [(8, True), (9, False)]:
            steps = [START, ("take", "a", "s", ((1,),) * many), ("call", "b", "a", "wide", ())]
            if right:
                self.assertEqual(sizes(steps)[0], 12)
            else:
                self.refused(steps, "width", 2)

    def test_width_12_and_13_of_a_pair(self):
        for many, right in [(5, True), (6, False)]:
            steps = [START, ("take", "a", "s", ((1,),) * many), ("take", "b", "s", ((2,),) * 7),
                     ("pair", "c", "a", "b")]
            if right:
                self.assertEqual(sizes(steps)[0], 12)
            else:
                self.refused(steps, "width", 3)
        self.assertEqual(sizes([START, ("take", "a", "s", ((1,),) * 12)])[0], 12)


class LimitTest(ProgramCase):
    def test_16_and_17_parts_of_a_both(self):
        steps = [START] + [("both", "b" + "abcd"[at], ["s", "ba", "bb", "bc"][at], ["s", "ba", "bb", "bc"][at])
                           for at in range(4)]
        self.assertEqual(sizes(steps), (0, 16, 0))
        self.refused([*steps, ("both", "e", "bd", "s")], "limit", 5)
        self.assertEqual(sizes([*steps, ("both", "e", "bc", "bc")]), (0, 16, 0))

    def test_parts_of_a_pair(self):
        steps = [START, ("both", "a", "s", "s"), ("both", "b", "a", "a"), ("both", "c", "b", "s")]
        self.assertEqual(sizes([*steps, ("pair", "d", "b", "b")]), (0, 16, 0))
        self.refused([*steps, ("pair", "d", "b", "c")], "limit", 4)
        self.refused([*steps, ("pair", "d", "c", "c")], "limit", 4)

    def test_4_and_5_calls(self):
        steps = [START]
        for at in range(5):
            steps.append(("call", "c" + "abcde"[at], steps[-1][1], "flags", ()))
        self.assertEqual(sizes(steps[:5]), (4, 1, 4))
        self.refused(steps, "limit", 5)
        self.refused([*steps[:3], ("pair", "p", "cb", "cb"), ("pair", "q", "p", "ca")], "limit", 4)

    def test_limits_of_a_step_that_is_not_used(self):
        steps = [START]
        for at in range(5):
            steps.append(("call", "c" + "abcde"[at], steps[-1][1], "flags", ()))
        self.refused([*steps, ("take", "t", "s", ())], "limit", 5)


class OrderTest(ProgramCase):
    def test_two_wrong_things_in_one_step(self):
        # c has 4 calls, w the width 11, d 2 parts and f 16.
        before = [START, ("call", "a", "s", "flags", ()), ("pair", "b", "a", "a"), ("pair", "c", "b", "b"),
                  ("take", "w", "c", ((1,),) * 11), ("both", "d", "s", "s"), ("both", "e", "d", "d"),
                  ("pair", "f", "e", "e")]
        cases = [
            (("call", "a", "zz", "zz", (-1,)), "form"), (("start", ""), "form"), (("both", "a", "zz", 1), "form"),
            (("call", "g", "zz", "out", ()), "name"), (("call", "s", "w", "wide", ()), "name"),
            (("call", "g", "s", "zz", (7,)), "name"), (("both", "g", "zz", "w"), "name"),
            (("take", "s", "a", (0,) * 13), "name"), (("take", "g", "zz", (9,)), "name"),
            (("call", "g", "w", "wide", (0,)), "items"), (("call", "g", "c", "wide", (0,)), "items"),
            (("take", "g", "a", (1,) * 13), "items"), (("call", "g", "c", "flags", ((1,),)), "items"),
            (("call", "g", "w", "wide", ()), "width"), (("pair", "g", "w", "c"), "width"),
            (("both", "g", "f", "c"), "width"), (("both", "g", "f", "a"), "width"),
            (("call", "g", "c", "flags", ()), "limit"), (("both", "g", "f", "s"), "limit"),
            (("pair", "g", "c", "a"), "limit"), (("pair", "g", "f", "d"), "limit"),
        ]
        for step, part in cases:
            self.refused([*before, step], part, len(before))

    def test_the_first_wrong_step(self):
        wrong = [(None, "form"), (("take", "s", "s", ()), "name"), (("call", "y", "s", "out", ()), "items"),
                 (("take", "z", "s", ((1,),) * 13), "width")]
        for (first, part), (second, _) in itertools.permutations(wrong, 2):
            self.refused([START, first, second], part, 1)
            self.refused([START, ("start", "t"), first, START, second], part, 2)

    def test_each_step_is_checked_against_the_steps_before_it(self):
        self.refused([("take", "t", "s", ()), START], "name", 0)


class EqualTest(ProgramCase):
    def test_equal(self):
        self.assertIs(Program(made(), BEFORE) == Program(made(), list(BEFORE)), True)
        self.assertIs(Program(made(), BEFORE) != Program(made(), BEFORE), False)

    def test_other_steps(self):
        one = Program(made(), BEFORE)
        for steps in [BEFORE[:2], [*BEFORE, ("start", "t")], [*BEFORE[:2], ("pair", "e", "c", "c")],
                      [START, ("call", "c", "s", "all", ()), ("both", "d", "c", "c")]]:
            self.assertIs(one == Program(made(), steps), False)
            self.assertIs(one != Program(made(), steps), True)

    def test_items_and_values_differ(self):
        one = Program(made(), [*BEFORE, ("where", "e", "d", 0, 1)])
        self.assertIs(one == Program(made(), [*BEFORE, ("where", "e", "d", 0, (1,))]), False)

    def test_other_schemas(self):
        self.assertIs(Program(made(), BEFORE) == Program(made().uncapped(["out"]), BEFORE), False)


class UnderTest(ProgramCase):
    def test_the_same_steps_over_another_schema(self):
        program = Program(made(), BEFORE)
        schema = made().uncapped(["out", "flags"])
        found = program.under(schema)
        self.assertEqual(found, Program(schema, BEFORE))
        self.assertIs(found.schema, schema)
        self.assertEqual(program.schema, made())

    def test_other_sizes(self):
        schema = Schema({"wide": 3}, {}, {"all": ("wide", (), None)})
        self.assertEqual(Program(made(), BEFORE).under(schema).width, 6)

    def refused_under(self, schema, part, at):
        program = Program(made(), BEFORE)
        with self.assertRaises(InvalidProgram) as caught:
            program.under(schema)
        self.assertEqual((caught.exception.part, caught.exception.at), (part, at))
        self.assertEqual(program, Program(made(), BEFORE))

    def test_errors(self):
        self.refused_under(Schema({"road": 2}, {}, {"every": ("road", (), None)}), "name", 1)
        self.refused_under(Schema({"road": 2}, {}, {"all": ("road", (1,), None)}), "items", 1)

    def test_width(self):
        program = Program(Schema({"flag": 3}, {}, {"all": ("flag", (), None)}),
                          [*BEFORE, ("pair", "e", "d", "d")])
        with self.assertRaises(InvalidProgram) as caught:
            program.under(Schema({"flag": 4}, {}, {"all": ("flag", (), None)}))
        self.assertEqual((caught.exception.part, caught.exception.at), ("width", 3))


class ChangedByTheCallerTest(ProgramCase):
    def test_the_list_of_steps(self):
        steps = list(BEFORE)
        program = Program(made(), steps)
        self.assertEqual(steps, BEFORE)
        steps.append(("start", "t"))
        steps[0] = None
        self.assertEqual(program.step_list(), BEFORE)
        self.assertEqual(program, Program(made(), BEFORE))
        found = program.step_list()
        found.clear()
        self.assertEqual(program.step_list(), BEFORE)
        self.assertEqual(program.under(made()), program)

    def test_refused_steps_are_not_modified(self):
        steps = [*BEFORE, ["start", "t"]]
        self.refused(steps, "form", 3)
        self.assertEqual(steps, [*BEFORE, ["start", "t"]])

    def test_attributes(self):
        schema = made()
        self.assertIs(Program(schema, BEFORE).schema, schema)


class RandomTest(ProgramCase):
    def test_sizes_the_long_way(self):
        for seed in range(150):
            generator = random.Random(seed)
            schema = random_schema(generator)
            program = random_program(generator, schema)
            found = {}
            for form, to, *rest in program.step_list():
                if form == "start":
                    found[to] = (0, 1, 0)
                elif form in ("both", "pair"):
                    (width, parts, calls), (more, other, others) = found[rest[0]], found[rest[1]]
                    if form == "both":
                        found[to] = (width, parts + other, max(calls, others))
                    else:
                        found[to] = (width + more, parts * other, calls + others)
                else:
                    width, parts, calls = found[rest[0]]
                    if form == "call":
                        width, calls = width + schema.width_of(schema.service_of(rest[1])[0]), calls + 1
                    found[to] = (len(rest[1]) if form == "take" else width, parts, calls)
            last = program.step_list()[-1][1]
            self.assertEqual((program.width, program.part_count, program.call_count), found[last])


class InterfaceTest(unittest.TestCase):
    def test_methods_stand_in_the_class_itself(self):
        arguments = {"__init__": ["schema", "steps"], "step_list": [], "under": ["schema"]}
        for name, expected in arguments.items():
            self.assertEqual(list(inspect.signature(vars(Program)[name]).parameters)[1:], expected)
        self.assertIn("__eq__", vars(Program))
        self.assertEqual(Program.__module__, "cappedcalls.programs")


if __name__ == "__main__":
    unittest.main()
