"""Points 2, 19 and 20: the run of a program."""

import inspect
import itertools
import random
import unittest

from cappedcalls import runs
from cappedcalls.answers import Answers
from cappedcalls.errors import InvalidCall, LimitExceeded, NotNoted, SchemaMismatch
from cappedcalls.programs import Program
from cappedcalls.runs import calls_made, outcome, relations
from cappedcalls.schemas import Schema
from cappedcalls.stores import Store
from cappedcalls.values import sorted_rows
from makers import random_choices, random_program, random_schema, random_store, relations_the_long_way

TABLES = {"road": 2, "flag": 1}
SERVICES = {"out": ("road", (0,), 1), "into": ("road", (1,), None), "all": ("road", (), None),
            "exact": ("road", (0, 1), None), "flags": ("flag", (), None), "one": ("flag", (), 1),
            "isflag": ("flag", (0,), None)}
ROADS = [(1, 2), (1, 3), (3, 1), ("a", 1), (2, "a")]
START = ("start", "s")


def made():
    return Schema(TABLES, {}, SERVICES)


def stored(roads=(), flags=()):
    return Store(made(), {"road": list(roads), "flag": [(flag,) for flag in flags]})


class Told:
    """Any object with a schema that answers calls."""

    def __init__(self, rows):
        self.schema = made()
        self.rows = rows
        self.calls = []

    def __call__(self, service, given):
        self.calls.append((service, given))
        rows = self.rows(service, given)
        if rows is None:
            raise NotNoted(service, given)
        return rows


def numbers(many, start=0):
    return [(number,) for number in range(start, start + many)]


class RunCase(unittest.TestCase):
    def relation(self, steps, roads=tuple(ROADS), flags=(1, "a")):
        """Return the outcome, and check that the three functions agree."""
        program = Program(made(), [START, *steps])
        answers = Answers(stored(roads, flags))
        found = relations(program, answers)
        self.assertEqual(list(found), [step[1] for step in program.step_list()])
        self.assertEqual(outcome(program, answers), list(found.values())[-1])
        for rows in found.values():
            self.assertEqual(rows, sorted_rows(rows))
        return outcome(program, answers)

    def too_many(self, program, answers):
        for call in [relations, outcome, calls_made]:
            with self.assertRaises(LimitExceeded) as caught:
                call(program, answers)
            self.assertEqual(caught.exception.limit, 5000)


class ExamplesTest(unittest.TestCase):
    def test_example(self):
        schema = Schema({"road": 2}, {}, {"out": ("road", (0,), 1)})
        store = Store(schema, {"road": [(1, 2), (1, 3), (3, 1)]})
        steps = [("start", "s"), ("call", "c", "s", "out", ((1,),)), ("call", "d", "c", "out", (1,)),
                 ("take", "t", "d", (3,))]
        program = Program(schema, steps)
        answers = Answers(store, {("out", (1,)): [(1, 3)]})
        found = [outcome(program, Answers(store)), outcome(program, answers), calls_made(program, answers)]
        self.assertEqual(found, [[], [(1,)], [("out", (1,)), ("out", (3,))]])


class FormsTest(RunCase):
    def test_start(self):
        self.assertEqual(self.relation([]), [()])

    def test_call_without_given_columns(self):
        self.assertEqual(self.relation([("call", "a", "s", "all", ())]), sorted_rows(ROADS))
        self.assertEqual(self.relation([("call", "a", "s", "flags", ())]), [(1,), ("a",)])
        self.assertEqual(self.relation([("call", "a", "s", "one", ())]), [(1,)])

    def test_call_with_values_and_indexes(self):
        self.assertEqual(self.relation([("call", "a", "s", "out", ((1,),))]), [(1, 2)])
        self.assertEqual(self.relation([("call", "a", "s", "into", ((1,),))]), [(3, 1), ("a", 1)])
        steps = [("call", "a", "s", "flags", ()), ("call", "b", "a", "into", (0,))]
        self.assertEqual(self.relation(steps), [(1, 3, 1), (1, "a", 1), ("a", 2, "a")])
        steps = [("call", "a", "s", "flags", ()), ("call", "b", "a", "exact", (0, (2,)))]
        self.assertEqual(self.relation(steps), [(1, 1, 2)])

    def test_items_in_their_order(self):
        steps = [("call", "a", "s", "exact", ((1,), (2,)))]
        self.assertEqual(self.relation(steps), [(1, 2)])
        steps = [("call", "a", "s", "exact", ((2,), (1,)))]
        self.assertEqual(self.relation(steps), [])
        steps = [("call", "a", "s", "all", ()), ("call", "b", "a", "exact", (1, 0))]
        self.assertEqual(self.relation(steps), [(1, 3, 3, 1), (3, 1, 1, 3)])

    def test_call_with_an_answer_of_no_row(self):
        self.assertEqual(self.relation([("call", "a", "s", "out", ((9,),))]), [])

    def test_both(self):
        steps = [("call", "a", "s", "out", ((1,),)), ("call", "b", "s", "into", ((1,),)), ("both", "c", "b", "a")]
        self.assertEqual(self.relation(steps), [(1, 2), (3, 1), ("a", 1)])
        steps = [("call", "a", "s", "all", ()), ("call", "b", "s", "into", ((1,),)), ("both", "c", "a", "b")]
        self.assertEqual(self.relation(steps), sorted_rows(ROADS))
        self.assertEqual(self.relation([("both", "a", "s", "s")]), [()])

    def test_pair(self):
        steps = [("call", "a", "s", "flags", ()), ("call", "b", "s", "into", ((1,),)), ("pair", "c", "b", "a")]
        self.assertEqual(self.relation(steps), [(3, 1, 1), (3, 1, "a"), ("a", 1, 1), ("a", 1, "a")])
        steps = [("call", "a", "s", "flags", ()), ("pair", "b", "a", "a")]
        self.assertEqual(self.relation(steps), [(1, 1), (1, "a"), ("a", 1), ("a", "a")])
        self.assertEqual(self.relation([("pair", "a", "s", "s")]), [()])

    def test_where(self):
        steps = [("call", "a", "s", "all", ()), ("where", "b", "a", 0, (1,))]
        self.assertEqual(self.relation(steps), [(1, 2), (1, 3)])
        steps = [("call", "a", "s", "all", ()), ("where", "b", "a", 1, ("a",))]
        self.assertEqual(self.relation(steps), [(2, "a")])
        steps = [("call", "a", "s", "all", ()), ("where", "b", "a", 0, 1)]
        self.assertEqual(self.relation(steps, [(1, 1), (1, 2), ("a", "a")]), [(1, 1), ("a", "a")])
        steps = [("call", "a", "s", "all", ()), ("where", "b", "a", 1, 1)]
        self.assertEqual(self.relation(steps), sorted_rows(ROADS))

    def test_take(self):
        steps = [("call", "a", "s", "all", ()), ("take", "b", "a", (1,))]
        self.assertEqual(self.relation(steps), [(1,), (2,), (3,), ("a",)])
        steps = [("call", "a", "s", "all", ()), ("take", "b", "a", (1, ("x",), 0, 0))]
        self.assertEqual(self.relation(steps, [(1, 2)]), [(2, "x", 1, 1)])

    def test_take_of_no_items(self):
        steps = [("call", "a", "s", "all", ()), ("take", "b", "a", ())]
        self.assertEqual(self.relation(steps), [()])
        self.assertEqual(self.relation(steps, []), [])

    def test_relations_of_no_tuple(self):
        steps = [("call", "a", "s", "all", ()), ("call", "b", "a", "out", (0,)), ("where", "c", "a", 0, 1),
                 ("take", "d", "a", (1, (5,))), ("pair", "e", "a", "s"), ("pair", "f", "s", "a"),
                 ("both", "g", "a", "a"), ("pair", "h", "a", "a")]
        for many in range(1, len(steps) + 1):
            self.assertEqual(self.relation(steps[:many], [], []), [])
        steps = [("call", "a", "s", "all", ()), ("call", "b", "s", "into", ((1,),)), ("where", "c", "a", 0, (9,)),
                 ("both", "d", "c", "b")]
        self.assertEqual(self.relation(steps), [(3, 1), ("a", 1)])

    def test_relations_of_every_step(self):
        steps = [START, ("call", "a", "s", "all", ()), ("take", "b", "a", ((7,), 1)), ("where", "c", "a", 0, (3,)),
                 ("take", "d", "s", (("a",),))]
        found = relations(Program(made(), steps), Answers(stored([(3, 2), (1, 2)])))
        self.assertEqual(found, {"s": [()], "a": [(1, 2), (3, 2)], "b": [(7, 2)], "c": [(3, 2)], "d": [("a",)]})

    def test_random_programs_the_long_way(self):
        for seed in range(300):
            generator = random.Random(seed)
            schema = random_schema(generator)
            program = random_program(generator, schema)
            store = random_store(generator, schema, 4)
            answers = Answers(store, random_choices(generator, store))
            expected = {name: sorted_rows(list(rows))
                        for name, rows in relations_the_long_way(program, answers).items()}
            if max(len(rows) for rows in expected.values()) <= 5000:
                self.assertEqual(relations(program, answers), expected)
                self.assertEqual(outcome(program, answers), expected[program.step_list()[-1][1]])
            else:
                self.too_many(program, answers)


class CallsTest(RunCase):
    def test_order_of_the_tuples(self):
        steps = [START, ("call", "a", "s", "flags", ()), ("call", "b", "a", "out", (0,))]
        answers = Answers(stored(ROADS, ["b", 10, 2, "a", -1]))
        expected = [("flags", ()), ("out", (-1,)), ("out", (2,)), ("out", (10,)), ("out", ("a",)), ("out", ("b",))]
        self.assertEqual(calls_made(Program(made(), steps), answers), expected)

    def test_tuples_and_not_their_items_are_sorted(self):
        steps = [START, ("call", "a", "s", "all", ()), ("call", "b", "a", "isflag", (1,))]
        answers = Answers(stored([(1, 9), (2, 5), (3, 7), (4, 5)]))
        expected = [("all", ()), ("isflag", (9,)), ("isflag", (5,)), ("isflag", (7,))]
        self.assertEqual(calls_made(Program(made(), steps), answers), expected)

    def test_order_when_the_answers_are_not_sorted(self):
        steps = [START, ("call", "a", "s", "flags", ()), ("call", "b", "a", "isflag", (0,))]
        answers = Told(lambda service, given: [(3,), ("a",), (1,)] if service == "flags" else [])
        expected = [("flags", ()), ("isflag", (1,)), ("isflag", (3,)), ("isflag", ("a",))]
        self.assertEqual(calls_made(Program(made(), steps), answers), expected)
        self.assertEqual(relations(Program(made(), steps), answers)["a"], [(1,), (3,), ("a",)])

    def test_a_call_is_made_once(self):
        steps = [START, ("call", "a", "s", "all", ()), ("call", "b", "a", "out", (0,)), ("call", "c", "b", "out", (2,)),
                 ("call", "d", "s", "all", ())]
        roads = {(1, 2), (1, 3), (2, 2)}
        answers = Told(lambda service, given: sorted(row for row in roads if row[:len(given)] == given))
        program = Program(made(), steps)
        for call in [relations, outcome, calls_made]:
            answers.calls = []
            call(program, answers)
            self.assertEqual(answers.calls, [("all", ()), ("out", (1,)), ("out", (2,))])
        self.assertEqual(calls_made(program, answers), [("all", ()), ("out", (1,)), ("out", (2,))])

    def test_its_answer_is_used_again(self):
        # An answer that changes is asked for once, so that a run sees only one of them.
        counter = itertools.count()
        answers = Told(lambda service, given: [(next(counter),)])
        steps = [START, ("call", "a", "s", "flags", ()), ("call", "b", "s", "flags", ()), ("both", "c", "a", "b"),
                 ("call", "d", "c", "flags", ())]
        found = relations(Program(made(), steps), answers)
        self.assertEqual(found["d"], [(0, 0)])
        self.assertEqual(outcome(Program(made(), steps), answers), [(1, 1)])

    def test_two_services_are_two_calls(self):
        steps = [START, ("call", "a", "s", "flags", ()), ("call", "b", "s", "one", ()), ("call", "c", "s", "all", ())]
        found = calls_made(Program(made(), steps), Answers(stored(ROADS, [1, 2])))
        self.assertEqual(found, [("flags", ()), ("one", ()), ("all", ())])

    def test_a_step_that_the_last_step_does_not_use(self):
        steps = [START, ("call", "a", "s", "flags", ()), ("call", "b", "a", "out", (0,)), ("take", "c", "s", ())]
        found = calls_made(Program(made(), steps), Answers(stored(ROADS, [4, 3])))
        self.assertEqual(found, [("flags", ()), ("out", (3,)), ("out", (4,))])

    def test_no_calls(self):
        self.assertEqual(calls_made(Program(made(), [START]), Answers(stored())), [])
        steps = [START, ("call", "a", "s", "flags", ()), ("call", "b", "a", "out", (0,))]
        self.assertEqual(calls_made(Program(made(), steps), Answers(stored(ROADS))), [("flags", ())])

    def test_calls_are_tuples(self):
        steps = [START, ("call", "a", "s", "exact", ((1,), ("a",)))]
        self.assertEqual(calls_made(Program(made(), steps), Answers(stored())), [("exact", (1, "a"))])


class LimitTest(RunCase):
    def check(self, steps, rows, many):
        """Run the steps, alone and with a last step that does not use them."""
        answers = Told(rows)
        for more in [[], [("take", "zz", "s", ())]]:
            program = Program(made(), [START, *steps, *more])
            if many > 5000:
                self.too_many(program, answers)
            else:
                found = relations(program, answers)
                self.assertEqual(len(found[steps[-1][1]]), many)
                self.assertEqual(outcome(program, answers), list(found.values())[-1])
                self.assertEqual(calls_made(program, answers), list(dict.fromkeys(answers.calls)))

    def test_call(self):
        for many in [4999, 5000, 5001, 20000]:
            self.check([("call", "a", "s", "flags", ())], lambda service, given: numbers(many), many)

    def test_call_of_many_tuples(self):
        steps = [("call", "a", "s", "flags", ()), ("call", "b", "a", "isflag", (0,))]
        for many in [5000, 5001]:
            self.check(steps, lambda service, given: numbers(100) if service == "flags"
                       else numbers(50 + (many - 5000) * (given == (7,))), many)

    def test_both(self):
        steps = [("call", "a", "s", "flags", ()), ("call", "b", "s", "one", ()), ("both", "c", "a", "b")]
        for one, start, other, many in [(4000, 4000, 1000, 5000), (4000, 4000, 1001, 5001), (5000, 0, 5000, 5000),
                                        (5000, 1, 5000, 5001), (5000, 5000, 5000, 10000)]:
            self.check(steps, lambda service, given: numbers(one) if service == "flags" else numbers(other, start),
                       many)

    def test_pair(self):
        steps = [("call", "a", "s", "flags", ()), ("call", "b", "s", "one", ()), ("pair", "c", "a", "b")]
        for one, other in [(50, 100), (100, 50), (5000, 1), (1, 5000), (3, 1667), (1667, 3), (5000, 2), (5000, 5000),
                           (0, 5000)]:
            self.check(steps, lambda service, given: numbers(one if service == "flags" else other), one * other)

    def test_a_pair_of_the_same_relation(self):
        steps = [("call", "a", "s", "flags", ()), ("pair", "b", "a", "a")]
        for many in [70, 71]:
            self.check(steps, lambda service, given: numbers(many), many * many)

    def test_over_a_store(self):
        steps = [START, ("call", "a", "s", "flags", ()), ("call", "b", "s", "all", ()), ("pair", "c", "a", "b"),
                 ("take", "d", "c", ())]
        program = Program(made(), steps)
        roads = [(number, 0) for number in range(100)]
        self.assertEqual(outcome(program, Answers(stored(roads, range(50)))), [()])
        self.too_many(program, Answers(stored(roads, range(51))))
        self.too_many(program, Answers(stored(roads + [(0, 1)], range(50))))

    def test_all_calls_of_a_step_are_made_before_it_is_counted(self):
        steps = [START, ("call", "a", "s", "flags", ()), ("call", "b", "a", "isflag", (0,))]

        def rows(service, given):
            if service == "flags":
                return numbers(3)
            return None if given == (2,) else numbers(4000)
        with self.assertRaises(NotNoted):
            outcome(Program(made(), steps), Told(rows))
        answers = Told(lambda service, given: numbers(3) if service == "flags" else numbers(4000))
        self.too_many(Program(made(), steps), answers)
        self.assertEqual(answers.calls[:4], [("flags", ()), ("isflag", (0,)), ("isflag", (1,)), ("isflag", (2,))])

    def test_steps_are_run_in_order(self):
        steps = [START, ("call", "a", "s", "flags", ()), ("pair", "b", "a", "a"), ("call", "c", "s", "all", ())]
        answers = Told(lambda service, given: numbers(71) if service == "flags" else None)
        self.too_many(Program(made(), steps), answers)


class ErrorsTest(RunCase):
    def test_schemas(self):
        program = Program(made(), [START])
        answers = Answers(Store(made().uncapped(["out"]), {}))
        for call in [relations, outcome, calls_made]:
            with self.assertRaises(SchemaMismatch):
                call(program, answers)

    def test_an_equal_schema_is_right(self):
        self.assertEqual(outcome(Program(made(), [START]), Answers(stored())), [()])

    def test_schemas_come_before_anything_else(self):
        answers = Told(lambda service, given: None)
        answers.schema = made().uncapped(["one"])
        program = Program(made(), [START, ("call", "a", "s", "flags", ())])
        for call in [relations, outcome, calls_made]:
            with self.assertRaises(SchemaMismatch):
                call(program, answers)
        self.assertEqual(answers.calls, [])

    def test_errors_of_calls_are_passed_on(self):
        program = Program(made(), [START, ("call", "a", "s", "out", ((1,),)), ("take", "b", "s", ())])
        for call in [relations, outcome, calls_made]:
            with self.assertRaises(NotNoted) as caught:
                call(program, Told(lambda service, given: None))
            self.assertEqual((caught.exception.service, caught.exception.given), ("out", (1,)))

        def refuse(service, given):
            raise InvalidCall(service)
        for call in [relations, outcome, calls_made]:
            with self.assertRaises(InvalidCall):
                call(program, Told(refuse))


class ChangedByTheCallerTest(RunCase):
    def test_arguments_and_answers_stay(self):
        steps = [START, ("call", "a", "s", "all", ()), ("both", "b", "a", "a"), ("where", "c", "b", 1, 1),
                 ("take", "d", "c", (0, 1))]
        program = Program(made(), steps)
        choices = {("out", (1,)): [(1, 3)]}
        answers = Answers(stored(ROADS), choices)
        expected = relations(program, answers)
        found = relations(program, answers)
        for name in list(found):
            found[name].clear()
            self.assertEqual(sum(not rows for rows in found.values()), list(found).index(name) + 1)
        found.clear()
        outcome(program, answers).clear()
        calls_made(program, answers).clear()
        self.assertEqual(relations(program, answers), expected)
        self.assertEqual(outcome(program, answers), sorted_rows(ROADS))
        self.assertEqual(calls_made(program, answers), [("all", ())])
        self.assertEqual(program.step_list(), steps)
        self.assertEqual(answers.store, stored(ROADS))
        self.assertEqual(answers.choices, choices)

    def test_answers_are_not_modified(self):
        rows = numbers(3)[::-1]
        program = Program(made(), [START, ("call", "a", "s", "flags", ()), ("call", "b", "a", "isflag", (0,))])
        found = relations(program, Told(lambda service, given: rows))
        self.assertEqual(rows, [(2,), (1,), (0,)])
        rows.clear()
        self.assertEqual(len(found["b"]), 9)

    def test_an_error_changes_nothing(self):
        answers = Answers(stored([(number, 0) for number in range(71)]))
        program = Program(made(), [START, ("call", "a", "s", "all", ()), ("pair", "b", "a", "a")])
        self.too_many(program, answers)
        self.assertEqual(answers.choices, {})
        self.assertEqual(len(answers("all", ())), 71)


class InterfaceTest(unittest.TestCase):
    def test_names_and_arguments(self):
        for name in ["relations", "outcome", "calls_made"]:
            function = getattr(runs, name)
            self.assertEqual(function.__module__, "cappedcalls.runs")
            self.assertEqual(list(inspect.signature(function).parameters), ["program", "answers"])


if __name__ == "__main__":
    unittest.main()
