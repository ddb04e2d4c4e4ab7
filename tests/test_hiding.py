"""Points 22 to 24: the full parts of a program, and the hiding store of each with its two choices."""

import itertools
import random
import unittest

from cappedcalls.answers import Answers
from cappedcalls.hiding import Hiding
from cappedcalls.programs import Program
from cappedcalls.schemas import Schema
from cappedcalls.terms import part_variables
from cappedcalls.unfolding import full_parts, unfolded
from makers import random_program, random_schema, relations_the_long_way

START = ("start", "s")


def outcome_of(program, answers):
    return relations_the_long_way(program, answers)[program.step_list()[-1][1]]


def values_of(program):
    """Return the values that stand in the steps of a program."""
    items = []
    for step in program.step_list():
        items.extend({"where": step[4:5], "call": step[-1], "take": step[-1]}.get(step[0], ()))
    return {item[0] for item in items if isinstance(item, tuple)}


class UnfoldedTest(unittest.TestCase):
    schema = Schema({"road": 2, "flag": 1}, {}, {"out": ("road", (0,), 1), "all": ("road", (), None),
                                                "flags": ("flag", (), 2)})

    def parts(self, *steps):
        return unfolded(Program(self.schema, [START, *steps]))

    def test_start(self):
        self.assertEqual(self.parts(), [((), [])])

    def test_call(self):
        steps = [("call", "a", "s", "all", ()), ("call", "b", "a", "out", (1,)), ("call", "c", "b", "out", (("x",),))]
        self.assertEqual(self.parts(*steps[:1]), [(((0,), (1,)), [("all", ((0,), (1,)))])])
        head = ((0,), (1,), (1,), (2,), "x", (3,))
        atoms = [("all", ((0,), (1,))), ("out", ((1,), (2,))), ("out", ("x", (3,)))]
        self.assertEqual(self.parts(*steps), [(head, atoms)])

    def test_both_and_pair(self):
        steps = [("call", "a", "s", "flags", ()), ("take", "b", "s", ((7,),)), ("both", "c", "a", "b"),
                 ("pair", "d", "c", "c")]
        one, other = (((0,),), [("flags", ((0,),))]), ((7,), [])
        self.assertEqual(self.parts(*steps[:3]), [one, other])
        self.assertEqual(self.parts(*steps), [
            (((0,), (1,)), [("flags", ((0,),)), ("flags", ((1,),))]), (((0,), 7), one[1]), ((7, (0,)), one[1]),
            ((7, 7), [])])

    def test_where(self):
        call = ("call", "a", "s", "all", ())
        self.assertEqual(self.parts(call, ("where", "b", "a", 0, 1)), [(((0,), (0,)), [("all", ((0,), (0,)))])])
        self.assertEqual(self.parts(call, ("where", "b", "a", 1, (7,))), [(((0,), 7), [("all", ((0,), 7))])])
        self.assertEqual(self.parts(call, ("where", "b", "a", 1, (7,)), ("where", "c", "b", 1, (8,))), [])
        twice = [("call", "a", "s", "out", ((7,),)), ("where", "b", "a", 0, (7,))]
        self.assertEqual(self.parts(*twice), [((7, (0,)), [("out", (7, (0,)))])])
        self.assertEqual(self.parts(*twice[:1], ("where", "b", "a", 0, (8,))), [])

    def test_take(self):
        call = ("call", "a", "s", "all", ())
        self.assertEqual(self.parts(call, ("take", "b", "a", ())), [((), [("all", ((0,), (1,)))])])
        self.assertEqual(self.parts(call, ("take", "b", "a", (1, ("x",), 1))),
                         [(((0,), "x", (0,)), [("all", ((1,), (0,)))])])


class FullPartsTest(unittest.TestCase):
    def heads(self, cap, many, keys):
        schema = Schema({"town": 2}, keys, {"some": ("town", (), cap), "named": ("town", (0,), None)})
        steps = [START]
        for at in range(many):
            steps.append(("call", "c" + "abcd"[at], steps[-1][1], "some", ()))
        steps.append(("take", "t", steps[-1][1], tuple(2 * at for at in range(many))))
        return sorted(tuple(term[0] for term in head) for head, _ in full_parts(Program(schema, steps)))

    def test_caps(self):
        self.assertEqual(self.heads(1, 1, {}), [(0,)])
        self.assertEqual(self.heads(1, 4, {}), [(0, 0, 0, 0)])
        self.assertEqual(self.heads(2, 2, {}), [(0, 1)])
        self.assertEqual(self.heads(2, 3, {}), [(0, 0, 1), (0, 1, 0), (0, 1, 1)])
        self.assertEqual(self.heads(3, 4, {}), [(0, 0, 1, 2), (0, 1, 0, 2), (0, 1, 1, 2), (0, 1, 2, 0), (0, 1, 2, 1),
                                                (0, 1, 2, 2)])
        self.assertEqual(self.heads(4, 4, {}), [(0, 1, 2, 3)])
        self.assertEqual(self.heads(None, 4, {}), [(0, 1, 2, 3)])

    def test_keys(self):
        schema = Schema({"town": 3}, {"town": (1,)}, {"all": ("town", (), None), "named": ("town", (1,), 1)})
        steps = [START, ("call", "a", "s", "all", ()), ("call", "b", "a", "named", (1,))]
        row = ((0,), (1,), (2,))
        self.assertEqual(full_parts(Program(schema, steps)), [(row + row, [("all", row), ("named", row)])])
        more = [*steps, ("where", "c", "b", 0, (1,)), ("where", "d", "c", 3, (2,))]
        self.assertEqual(full_parts(Program(schema, more)), [])

    def test_no_part_is_left_that_a_rule_changes(self):
        for seed in range(200):
            generator = random.Random(seed)
            program = random_program(generator, random_schema(generator))
            schema = program.schema
            for _, atoms in full_parts(program):
                for at, (one, terms) in enumerate(atoms):
                    for other, more in atoms[:at]:
                        table = schema.service_of(one)[0]
                        key = schema.key_of(table)
                        if key and schema.service_of(other)[0] == table and terms != more:
                            self.assertNotEqual([terms[column] for column in key], [more[column] for column in key])
                for service in schema.capped_names():
                    _, given, cap = schema.service_of(service)
                    calls = [tuple(terms[column] for column in given) for name, terms in set(atoms) if name == service]
                    self.assertLessEqual(max([calls.count(call) for call in calls], default=0), cap)


class HidingTest(unittest.TestCase):
    def check(self, program, part):
        """Check the store and the two choices as point 24 says them, and return the store's length."""
        schema = program.schema
        hiding = Hiding(program, part)
        store = hiding.made_store()
        head, atoms = part
        variables = part_variables(part)
        cells = [value for table in schema.table_names() for row in store[table] for value in row]
        taken = values_of(program)
        own = {value for value in cells if value not in taken}
        free = sum(len(rows) * (schema.width_of(schema.service_of(service)[0]) - len(given))
                   for (service, given), rows in hiding.hiding.items())
        self.assertEqual(len(own), len(variables) + free)
        self.assertEqual(sum(len(rows) for rows in hiding.hiding.values()) + len(self.rows(schema, atoms)), len(store))
        self.assertEqual(hiding.hiding.keys(), hiding.helping.keys())
        for (service, given), rows in hiding.hiding.items():
            fitting = store.fitting(service, given)
            self.assertIn(service, schema.capped_names())
            self.assertEqual(len(set(rows)), schema.service_of(service)[2])
            self.assertGreater(len(fitting), len(rows))
            self.assertLessEqual(set(rows), set(fitting))
        first = outcome_of(program, Answers(store, hiding.helping))
        second = outcome_of(program, Answers(store, hiding.hiding))
        self.assertIn(hiding.head, first)
        self.assertIs(hiding.shows_head(unfolded(program)), hiding.head in second)
        return len(store)

    def rows(self, schema, atoms):
        return {(schema.service_of(service)[0], terms) for service, terms in atoms}

    def test_random_programs(self):
        for seed in range(250):
            generator = random.Random(seed)
            program = random_program(generator, random_schema(generator))
            for part in full_parts(program)[:6]:
                self.assertLessEqual(self.check(program, part), 20)

    def test_16_variables_and_16_new_rows(self):
        for cap, given in itertools.product([1, 2, 3, 4], [(0,), (3,), (1, 2), ()]):
            schema = Schema({"wide": 4}, {}, {"out": ("wide", given, cap), "all": ("wide", (), None)})
            steps = [START, ("call", "a", "s", "all", ()), ("take", "b", "a", (1,)), ("pair", "c", "b", "b"),
                     ("pair", "d", "c", "c")]
            program = Program(schema, steps)
            part = full_parts(program)[0]
            self.assertEqual((len(part_variables(part)), len(part[1])), (16, 4))
            self.assertEqual(self.check(program, part), 4 + cap * (4 if given else 1))

    def test_new_rows_are_added_where_the_service_is_not_called(self):
        schema = Schema({"flag": 1}, {}, {"all": ("flag", (), None), "some": ("flag", (), 3)})
        program = Program(schema, [START, ("call", "a", "s", "all", ())])
        self.assertEqual(self.check(program, full_parts(program)[0]), 4)


if __name__ == "__main__":
    unittest.main()
