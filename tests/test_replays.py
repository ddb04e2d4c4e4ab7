"""Points 2, 20, 65 and 78: answers from a log, and runs over them."""

import inspect
import random
import unittest

from cappedcalls.answers import Answers
from cappedcalls.errors import LimitExceeded, NotNoted, SchemaMismatch
from cappedcalls.logs import Log
from cappedcalls.openings import opening, sure
from cappedcalls.programs import Program
from cappedcalls.replays import Replay
from cappedcalls.runs import calls_made, outcome, relations
from cappedcalls.schemas import Schema
from cappedcalls.steady import steady
from cappedcalls.stores import Store
from makers import random_choices, random_program, random_schema, random_store

START = ("start", "s")


def made(cap=2):
    return Schema({"road": 2, "town": 1}, {}, {"out": ("road", (0,), cap), "roads": ("road", (), None),
                                               "towns": ("town", (), None)})


def two_roads(schema=None):
    return Program(schema or made(), [START, ("call", "a", "s", "out", ((1,),)), ("call", "b", "a", "out", (1,)),
                                      ("take", "t", "b", (3,))])


class ReplayTest(unittest.TestCase):
    def setUp(self):
        self.log = Log(made())
        self.log.note("out", (1,), [(1, "a"), (1, 5)])
        self.log.note("towns", (), [])
        self.replay = Replay(self.log)

    def missing(self, service, given, replay=None):
        with self.assertRaises(NotNoted) as caught:
            (replay or self.replay)(service, given)
        self.assertEqual((caught.exception.service, caught.exception.given), (service, given))

    def test_a_call_that_is_noted(self):
        self.assertEqual(self.replay("out", (1,)), [(1, 5), (1, "a")])
        self.assertEqual(self.replay("towns", ()), [])

    def test_a_call_that_is_not_noted(self):
        for service, given in [("out", (2,)), ("roads", ()), ("no", (1,)), ("out", ()), ("out", (1, 1)), ("out", ("a",))]:
            self.missing(service, given)

    def test_things_that_are_no_call(self):
        for service, given in [("out", (True,)), ("out", [1]), (None, None), (["out"], (1,)), ("out", ([1],)), (1, 1)]:
            self.missing(service, given)

    def test_a_call_that_is_noted_later(self):
        self.missing("out", (2,))
        self.log.note("out", (2,), [(2, 2)])
        self.assertEqual(self.replay("out", (2,)), [(2, 2)])

    def test_it_answers_from_the_log_as_it_is_in_a_trial(self):
        found = self.log.trial([("out", (2,), [(2, 2)])], lambda log: self.replay("out", (2,)))
        self.assertEqual(found, [(2, 2)])
        self.missing("out", (2,))
        self.assertEqual(self.replay("out", (1,)), [(1, 5), (1, "a")])

    def test_known_rows_of_other_calls_are_no_answers(self):
        self.log.note("roads", (), [(1, "a"), (1, 5), (7, 7)])
        self.missing("out", (7,))

    def test_schema(self):
        self.assertEqual(self.replay.schema, self.log.schema)
        self.assertIn("schema", vars(self.replay))

    def test_two_logs(self):
        other = Log(made())
        self.missing("out", (1,), Replay(other))


class RunTest(unittest.TestCase):
    def setUp(self):
        self.log = Log(made())
        self.replay = Replay(self.log)

    def test_before_and_after_all_calls_are_noted(self):
        program = two_roads()
        for run in [outcome, calls_made, relations]:
            with self.assertRaises(NotNoted) as caught:
                run(program, self.replay)
            self.assertEqual((caught.exception.service, caught.exception.given), ("out", (1,)))
        self.log.note("out", (1,), [(1, 2), (1, 3)])
        self.log.note("out", (3,), [(3, "z"), (3, 1)])
        with self.assertRaises(NotNoted) as caught:
            outcome(program, self.replay)
        self.assertEqual(caught.exception.given, (2,))
        self.log.note("out", (2,), [(2, "y")])
        self.assertEqual(outcome(program, self.replay), [(1,), ("y",), ("z",)])
        self.assertEqual(calls_made(program, self.replay), [("out", (1,)), ("out", (2,)), ("out", (3,))])
        self.assertEqual(relations(program, self.replay)["a"], [(1, 2), (1, 3)])

    def test_calls_that_are_not_made_need_no_note(self):
        self.log.note("out", (1,), [])
        self.assertEqual(outcome(two_roads(), self.replay), [])
        self.assertEqual(outcome(Program(made(), [START]), Replay(Log(made()))), [()])

    def test_a_schema_that_differs(self):
        for run in [outcome, calls_made, relations]:
            with self.assertRaises(SchemaMismatch):
                run(two_roads(made(3)), self.replay)

    def test_all_calls_are_made_before_the_tuples_are_counted(self):
        schema = made()
        log = Log(schema)
        log.note("roads", (), [(at, at) for at in range(80)])
        steps = [START, ("call", "a", "s", "roads", ()), ("pair", "b", "a", "a")]
        with self.assertRaises(LimitExceeded):
            outcome(Program(schema, steps), Replay(log))
        steps = [START, ("call", "a", "s", "roads", ()), ("call", "b", "a", "roads", ()), ("call", "c", "a", "out", (1,))]
        with self.assertRaises(LimitExceeded):
            outcome(Program(schema, steps), Replay(log))
        steps = [START, ("call", "a", "s", "roads", ()), ("call", "b", "a", "out", (1,)), ("call", "c", "a", "roads", ())]
        with self.assertRaises(NotNoted):
            outcome(Program(schema, steps), Replay(log))


class FactTest(unittest.TestCase):
    """What ties the two halves: a steady program whose calls are all noted."""

    def check(self, program, answers):
        log = Log(program.schema)
        for service, given in calls_made(program, answers):
            log.note(service, given, answers(service, given))
        expected = outcome(program, answers)
        question = steady(program)[1]
        self.assertEqual(outcome(program, Replay(log)), expected)
        self.assertEqual(calls_made(program, Replay(log)), calls_made(program, answers))
        self.assertEqual(sure(log, question), expected)
        self.assertIsNone(opening(log, question))
        return log

    def test_a_capped_service(self):
        schema = made()
        program = Program(schema, [START, ("call", "a", "s", "out", ((1,),)), ("take", "t", "a", ())])
        store = Store(schema, {"road": [(1, 2), (1, 3), (1, 4), (2, 2)]})
        log = self.check(program, Answers(store, {("out", (1,)): [(1, 4), (1, 3)]}))
        self.assertFalse(log.is_complete("out", (1,)))
        self.check(program, Answers(Store(schema, {})))

    def test_whole_services(self):
        schema = made()
        program = Program(schema, [START, ("call", "a", "s", "roads", ()), ("call", "b", "a", "towns", ()),
                                   ("where", "c", "b", 1, 2), ("take", "d", "c", (0,))])
        self.check(program, Answers(Store(schema, {"road": [(1, 2), (1, "x")], "town": [(2,), ("y",)]})))

    def test_it_is_open_before_the_calls_are_noted(self):
        program = Program(made(), [START, ("call", "a", "s", "roads", ())])
        self.assertIsNotNone(opening(Log(made()), steady(program)[1]))

    def test_random_programs(self):
        generator = random.Random(65)
        seen = 0
        while seen < 60:
            program = random_program(generator, random_schema(generator))
            if steady(program)[0] == "steady":
                for _ in range(3):
                    store = random_store(generator, program.schema)
                    log = self.check(program, Answers(store, random_choices(generator, store)))
                    seen += len(log) > 1


class SharingTest(unittest.TestCase):
    def setUp(self):
        self.log = Log(made())
        self.log.note("out", (1,), [(1, 2), (1, 3)])
        self.replay = Replay(self.log)

    def test_changes_to_an_answer(self):
        self.replay("out", (1,)).clear()
        self.assertEqual(self.replay("out", (1,)), [(1, 2), (1, 3)])
        self.assertEqual(self.log.call_list(), [("out", (1,), [(1, 2), (1, 3)])])

    def test_the_log_does_not_change(self):
        before = self.log.call_list()
        self.replay("out", (1,))
        for call in [lambda: self.replay("out", (2,)), lambda: outcome(two_roads(), self.replay)]:
            with self.assertRaises(NotNoted):
                call()
        self.assertEqual(self.log.call_list(), before)


class InterfaceTest(unittest.TestCase):
    def test_names_and_arguments(self):
        self.assertEqual(list(inspect.signature(Replay).parameters), ["log"])
        self.assertEqual(list(inspect.signature(vars(Replay)["__call__"]).parameters), ["self", "service", "given"])
        self.assertEqual(Replay.__module__, "cappedcalls.replays")


if __name__ == "__main__":
    unittest.main()
