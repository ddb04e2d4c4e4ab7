"""Points 2 and 29: the least sets of services that make a program steady when they have no cap."""

import inspect
import itertools
import random
import unittest

from cappedcalls.programs import Program
from cappedcalls.schemas import Schema
from cappedcalls.steady import is_steady, is_steady_with
from cappedcalls.uncapped import least_uncapped
from makers import random_program, random_schema

START = ("start", "s")
TABLES = {"ta": 1, "tb": 1, "tc": 1, "road": 2}
SERVICES = {"a": ("ta", (), 1), "b": ("tb", (), 1), "c": ("tc", (), 1), "out": ("road", (0,), 1),
            "all": ("road", (), None)}


def made():
    return Schema(TABLES, {}, SERVICES)


def least(*steps, schema=None):
    return least_uncapped(Program(schema or made(), [START, *steps]))


def least_the_long_way(program):
    """Return the least sets as point 29 says it, each set of all capped services tried."""
    names = program.schema.capped_names()
    sets = [one for many in range(len(names) + 1) for one in itertools.combinations(names, many)]
    right = [one for one in sets if is_steady_with(program, list(one))]
    return sorted([one for one in right if not any(set(other) < set(one) for other in right)],
                  key=lambda one: (len(one), one))


class LeastTest(unittest.TestCase):
    def test_example(self):
        schema = Schema({"road": 2, "town": 1}, {}, {"out": ("road", (0,), 1), "some": ("town", (), 2)})
        steps = [("start", "s"), ("call", "c", "s", "some", ()), ("call", "d", "c", "out", (0,)),
                 ("take", "t", "d", (0,))]
        self.assertEqual(least_uncapped(Program(schema, steps)), [("some",)])

    def test_a_program_that_is_steady_as_it_is(self):
        self.assertEqual(least(), [()])
        self.assertEqual(least(("call", "x", "s", "all", ())), [()])
        self.assertEqual(least(("call", "x", "s", "a", ()), ("take", "y", "x", ())), [()])

    def test_one_service(self):
        self.assertEqual(least(("call", "x", "s", "b", ())), [("b",)])
        steps = [("call", "x", "s", "out", ((1,),)), ("call", "y", "x", "a", ()), ("take", "z", "y", (1,))]
        self.assertEqual(least(*steps), [("out",)])

    def test_one_of_two_calls(self):
        schema = Schema({"ta": 1}, {}, {"a": ("ta", (), 1), "named": ("ta", (0,), None)})
        self.assertEqual(least(("call", "x", "s", "a", ()), ("call", "y", "x", "named", (0,)), schema=schema), [("a",)])

    def both_ways(self, one, others):
        """Return a program for the values that three tables have in common, found in two ways."""
        services = {name: ("t" + name, (), 1) for name in "abc"}
        services.update({"in" + name: ("t" + name, (0,), None) for name in "abc"})
        first, second = others
        steps = [START, ("call", "d", "s", one, ()), ("call", "e", "d", "in" + first, (0,)),
                 ("call", "f", "e", "in" + second, (0,)), ("take", "g", "f", (0,)),
                 ("call", "h", "s", first, ()), ("call", "i", "h", second, ()), ("where", "j", "i", 0, 1),
                 ("call", "k", "j", "in" + one, (0,)), ("take", "l", "k", (2,)), ("both", "m", "g", "l")]
        return Program(Schema({"ta": 1, "tb": 1, "tc": 1}, {}, services), steps)

    def test_one_service_or_two_others(self):
        # Either way finds all the values if its calls have no cap, and covers what the other way picks.
        self.assertEqual(least_uncapped(self.both_ways("a", "bc")), [("a",), ("b", "c")])
        self.assertEqual(least_uncapped(self.both_ways("b", "ca")), [("b",), ("a", "c")])
        self.assertEqual(least_uncapped(self.both_ways("c", "ba")), [("c",), ("a", "b")])

    def test_one_of_two_services(self):
        services = {"b": ("tb", (), 2), "a": ("ta", (), 1), "ina": ("ta", (0,), None), "inb": ("tb", (0,), None)}
        steps = [("call", "d", "s", "a", ()), ("call", "e", "d", "inb", (0,)), ("call", "f", "s", "b", ()),
                 ("call", "g", "f", "ina", (0,)), ("both", "h", "e", "g")]
        schema = Schema({"ta": 1, "tb": 1}, {}, services)
        self.assertEqual(least(*steps, schema=schema), [("a",), ("b",)])
        self.assertEqual(least(*steps[:2], schema=schema), [("a",)])
        self.assertEqual(least(*steps[2:4], schema=schema), [("b",)])

    def test_two_services(self):
        self.assertEqual(least(("call", "x", "s", "c", ()), ("call", "y", "x", "a", ())), [("a", "c")])
        self.assertEqual(least(("call", "x", "s", "out", ((1,),)), ("call", "y", "x", "out", (1,)),
                               ("call", "z", "y", "b", ())), [("b", "out")])

    def test_three_services(self):
        self.assertEqual(least(("call", "x", "s", "c", ()), ("call", "y", "x", "a", ()), ("call", "z", "y", "b", ())),
                         [("a", "b", "c")])

    def test_more_names_do_not_always_help(self):
        steps = [("call", "d", "s", "b", ()), ("where", "e", "d", 0, (1,)), ("call", "f", "e", "b", ()),
                 ("where", "g", "f", 1, (2,)), ("call", "h", "g", "c", ()), ("take", "i", "h", (2,)),
                 ("call", "j", "s", "a", ()), ("both", "k", "i", "j")]
        program = Program(made(), [START, *steps])
        self.assertEqual(least_uncapped(program), [("a",)])
        self.assertIs(is_steady_with(program, ["a", "b"]), False)
        self.assertEqual(least_uncapped(program.under(made().uncapped(["a", "b"]))), [("c",)])

    def test_the_long_way(self):
        found = set()
        for seed in range(800):
            generator = random.Random(seed)
            program = random_program(generator, random_schema(generator))
            sets = least_uncapped(program)
            self.assertEqual(sets, least_the_long_way(program))
            found.add((len(sets), max(len(one) for one in sets)))
        self.assertLessEqual({(1, 0), (1, 1), (1, 2)}, found)

    def test_what_is_returned(self):
        found = least(("call", "x", "s", "c", ()), ("call", "y", "x", "a", ()))
        self.assertEqual((type(found), type(found[0])), (list, tuple))

    def test_services_that_are_both_needed(self):
        steps = [("call", "p", "s", "a", ()), ("where", "q", "p", 0, (1,)), ("take", "r", "q", ()),
                 ("call", "x", "s", "b", ()), ("where", "y", "x", 0, (1,)), ("take", "z", "y", ())]
        self.assertEqual(least(*steps, ("both", "o", "r", "z")), [("a", "b")])
        self.assertEqual(least(*steps, ("pair", "o", "r", "z")), [("a", "b")])

    def test_least_sets_of_other_schemas(self):
        program = Program(made(), [START, ("call", "x", "s", "c", ()), ("call", "y", "x", "a", ())])
        self.assertEqual(least_uncapped(program.under(made().uncapped(["c"]))), [("a",)])
        self.assertEqual(least_uncapped(program.under(made().uncapped(["c", "a"]))), [()])

    def test_the_program_does_not_change(self):
        program = Program(made(), [START, ("call", "x", "s", "b", ())])
        least_uncapped(program).clear()
        self.assertEqual(least_uncapped(program), [("b",)])
        self.assertEqual(program, Program(made(), [START, ("call", "x", "s", "b", ())]))
        self.assertIs(is_steady(program), False)


class InterfaceTest(unittest.TestCase):
    def test_names_and_arguments(self):
        self.assertEqual(least_uncapped.__module__, "cappedcalls.uncapped")
        self.assertEqual(list(inspect.signature(least_uncapped).parameters), ["program"])


if __name__ == "__main__":
    unittest.main()
