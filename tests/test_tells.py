"""Points 2, 52 to 54 and 78: programs compared with questions and with other programs."""

import inspect
import random
import unittest

from cappedcalls import tells as tells_module
from cappedcalls.answers import Answers
from cappedcalls.errors import SchemaMismatch, Unsteady, WidthMismatch
from cappedcalls.programs import Program
from cappedcalls.questions import Question, answers_of
from cappedcalls.runs import outcome
from cappedcalls.schemas import Schema
from cappedcalls.steady import is_steady, steady
from cappedcalls.stores import Store
from cappedcalls.tells import alike, tells
from cappedcalls.values import sorted_rows
from makers import random_choices, random_program, random_question, random_schema, random_store, relations_the_long_way

START = ("start", "s")
X, Y, Z = (0,), (1,), (2,)
ROADS = ("call", "r", "s", "roads", ())
OUT = ("call", "r", "s", "out", ((1,),))


def made(cap=1, keys=None):
    services = {"out": ("road", (0,), cap), "roads": ("road", (), None), "outall": ("road", (0,), None),
                "some": ("town", (), cap), "towns": ("town", (), None)}
    return Schema({"road": 2, "town": 1}, keys or {}, services)


def program_of(*steps, schema=None):
    return Program(schema or made(), [START, *steps])


def asked(width, *parts, schema=None):
    return Question(schema or made(), width, list(parts))


def outcome_the_long_way(program, answers):
    return sorted_rows(list(relations_the_long_way(program, answers)[program.step_list()[-1][1]]))


def is_small(*programs):
    """Return True if point 54 says that runs over what is returned raise no LimitExceeded."""
    caps = [cap for program in programs for _, _, cap in program.schema.services.values()]
    sizes = [len(program.step_list()) for program in programs]
    prefixes = [Program(program.schema, program.step_list()[:at + 1])
                for program, size in zip(programs, sizes) for at in range(size)]
    most_parts = max(prefix.part_count for prefix in prefixes)
    most_calls = max(prefix.call_count for prefix in prefixes)
    few_rows = all(cap in (None, 1, 2) for cap in caps)
    return most_parts <= 4 and (most_calls <= 2 or most_calls <= 3 and few_rows)


class PairCase(unittest.TestCase):
    def check_pair(self, found, schema):
        self.assertEqual((type(found), len(found)), (tuple, 2))
        store, choices = found
        self.assertIsInstance(store, Store)
        self.assertEqual((store.schema, type(choices)), (schema, dict))
        self.assertLessEqual(len(store), 40)
        return store, Answers(store, choices)

    def is_told(self, program, question):
        """Check that tells says so, over some stores and choices."""
        self.assertIsNone(tells(program, question))
        generator = random.Random(5)
        for _ in range(6):
            store = random_store(generator, program.schema, 4)
            for choices in [None, random_choices(generator, store), random_choices(generator, store)]:
                found = outcome_the_long_way(program, Answers(store, choices))
                self.assertEqual(found, answers_of(question, store))

    def is_not_told(self, program, question):
        found = tells(program, question)
        store, answers = self.check_pair(found, program.schema)
        expected = answers_of(question, store)
        self.assertNotEqual(outcome_the_long_way(program, answers), expected)
        if is_small(program):
            self.assertNotEqual(outcome(program, answers), expected)
        return found

    def are_alike(self, one, other):
        self.assertIsNone(alike(one, other))
        self.assertIsNone(alike(other, one))
        generator = random.Random(6)
        for _ in range(6):
            store = random_store(generator, one.schema, 4)
            for _ in range(2):
                first, second = [Answers(store, random_choices(generator, store)) for _ in range(2)]
                self.assertEqual(outcome_the_long_way(one, first), outcome_the_long_way(other, second))

    def are_not_alike(self, one, other):
        for first, second in [(one, other), (other, one)]:
            store, answers = self.check_pair(alike(first, second), one.schema)
            self.assertNotEqual(outcome_the_long_way(first, answers), outcome_the_long_way(second, answers))
            if is_small(first, second):
                self.assertNotEqual(outcome(first, answers), outcome(second, answers))


class TellsTest(PairCase):
    def test_a_steady_program_with_its_own_question(self):
        for program in [program_of(), program_of(ROADS), program_of(OUT, ("take", "t", "r", ())),
                        program_of(ROADS, ("take", "t", "r", (1, ("x",)))), program_of(ROADS, ("both", "b", "r", "r"))]:
            self.is_told(program, steady(program)[1])

    def test_another_form_of_the_question(self):
        ends = program_of(ROADS, ("take", "t", "r", (1,)))
        self.is_told(ends, asked(1, ((Y,), [("road", (X, Y))])))
        self.is_told(ends, asked(1, ((X,), [("road", (Y, X)), ("road", (Z, X))]), ((X,), [("road", (X, X))])))

    def test_a_part_less_and_a_part_more(self):
        program = program_of(ROADS, ("call", "v", "s", "towns", ()), ("take", "t", "r", (1,)), ("both", "b", "t", "v"))
        parts = [((Y,), [("road", (X, Y))]), ((X,), [("town", (X,))])]
        self.is_told(program, asked(1, *parts))
        for question in [asked(1, *parts[:1]), asked(1, *parts[1:]), asked(1), asked(1, *parts, (("new",), [])),
                         asked(1, *parts, ((X,), [("road", (X, Y))]))]:
            _, choices = self.is_not_told(program, question)
            self.assertEqual(choices, {})
        self.is_told(program, asked(1, *parts, ((X,), [("road", (X, X))])))

    def test_width_0(self):
        program = program_of(OUT, ("take", "t", "r", ()))
        self.is_told(program, asked(0, ((), [("road", (1, X))])))
        self.is_not_told(program, asked(0, ((), [("road", (2, X))])))
        self.is_not_told(program, asked(0, ((), [])))
        self.is_not_told(program, asked(0))

    def test_a_program_that_makes_nothing(self):
        program = program_of(("take", "t", "s", ((1,),)), ("where", "w", "t", 0, (2,)))
        self.is_told(program, asked(1))
        self.is_not_told(program, asked(1, ((1,), [])))

    def test_programs_that_are_not_steady(self):
        ends = program_of(OUT, ("take", "t", "r", (1,)))
        for question in [asked(1), asked(1, ((X,), [("road", (1, X))])), asked(1, ((X,), [("road", (Y, X))])),
                         asked(1, ((5,), []))]:
            self.is_not_told(ends, question)
        for cap in [2, 3, 4]:
            schema = made(cap)
            self.is_not_told(program_of(OUT, schema=schema), asked(2, ((1, X), [("road", (1, X))]), schema=schema))

    def test_the_question_that_it_would_answer_without_caps(self):
        generator = random.Random(52)
        seen = 0
        for _ in range(60):
            program = random_program(generator, random_schema(generator))
            if not is_steady(program):
                free = program.under(program.schema.uncapped(program.schema.capped_names()))
                parts = steady(free)[1].part_list()
                self.is_not_told(program, Question(program.schema, program.width, parts))
                self.is_not_told(program, Question(program.schema, program.width, []))
                seen += 1
        self.assertGreater(seen, 20)

    def test_numbers_of_the_question(self):
        # The question may have the very numbers that stand for variables.
        numbers = [((at,), [("road", (1, at))]) for at in range(40)]
        self.is_not_told(program_of(OUT, ("take", "t", "r", (1,))), asked(1, *numbers))
        self.is_not_told(program_of(ROADS, ("take", "t", "r", (1,))), asked(1, *numbers))

    def test_keys(self):
        schema = made(1, {"road": (0,)})
        program = program_of(OUT, ("take", "t", "r", (1,)), schema=schema)
        self.is_told(program, asked(1, ((X,), [("road", (1, X)), ("road", (1, Y))]), schema=schema))
        self.is_not_told(program, asked(1, ((X,), [("road", (Y, X))]), schema=schema))

    def test_random_programs(self):
        generator = random.Random(53)
        for _ in range(60):
            program = random_program(generator, random_schema(generator))
            found = steady(program)
            if found[0] == "steady":
                self.is_told(program, found[1])
            question = random_question(generator, program.schema, program.width)
            if tells(program, question) is None:
                self.is_told(program, question)
            else:
                self.is_not_told(program, question)


class AlikeTest(PairCase):
    def test_a_program_with_itself(self):
        for program in [program_of(), program_of(ROADS), program_of(OUT, ("take", "t", "r", ()))]:
            self.are_alike(program, program)

    def test_different_steps(self):
        self.are_alike(program_of(ROADS), program_of(("call", "a", "s", "roads", ()), ("call", "b", "a", "outall", (0,)),
                                                     ("where", "c", "b", 3, 1), ("take", "d", "c", (2, 3))))
        self.are_alike(program_of(OUT, ("take", "t", "r", ())),
                       program_of(ROADS, ("where", "w", "r", 0, (1,)), ("take", "t", "w", ())))
        self.are_alike(program_of(ROADS, ("both", "b", "r", "r")), program_of(("call", "x", "s", "roads", ())))
        nothing = program_of(("take", "t", "s", ((1,), (1,))), ("where", "w", "t", 0, (2,)))
        self.are_alike(nothing, program_of(ROADS, ("where", "a", "r", 0, (1,)), ("where", "b", "a", 0, (2,))))

    def test_programs_that_differ(self):
        whole = program_of(ROADS)
        self.are_not_alike(whole, program_of(ROADS, ("where", "w", "r", 0, 1)))
        self.are_not_alike(whole, program_of(ROADS, ("take", "t", "r", (1, 0))))
        self.are_not_alike(whole, program_of(("take", "t", "s", ((1,), (2,)))))
        asks = [program_of(("call", "r", "s", "out", ((at,),)), ("take", "t", "r", ())) for at in (1, 2)]
        self.are_not_alike(*asks)

    def test_programs_that_differ_in_one_store_alone(self):
        # They differ where a road leads from 1 to 1 and nowhere else.
        rest = [("where", "a", "r", 0, (1,)), ("where", "b", "a", 1, (1,)), ("take", "t", "b", ())]
        nothing = [*rest[:2], ("where", "c", "b", 0, (2,)), ("take", "t", "c", ())]
        self.are_not_alike(program_of(ROADS, *rest), program_of(ROADS, *nothing))
        store, _ = alike(program_of(ROADS, *rest), program_of(ROADS, *nothing))
        self.assertIn(("road", (1, 1)), store)

    def test_both_directions(self):
        some = program_of(ROADS, ("where", "w", "r", 0, (1,)), ("take", "t", "w", (1,)))
        more = program_of(ROADS, ("take", "t", "r", (1,)))
        self.are_not_alike(some, more)

    def test_a_part_more(self):
        more = program_of(ROADS, ("call", "v", "s", "towns", ()), ("take", "t", "r", (1,)), ("both", "b", "t", "v"))
        self.are_not_alike(program_of(ROADS, ("take", "t", "r", (1,))), more)

    def test_keys(self):
        schema = made(1, {"road": (0,)})
        self.are_alike(program_of(OUT, schema=schema), program_of(("call", "r", "s", "outall", ((1,),)), schema=schema))

    def test_programs_that_are_not_steady(self):
        bad, other_bad = program_of(OUT), program_of(("call", "a", "s", "out", ((2,),)))
        good = program_of(ROADS)
        for one, other, which in [(bad, good, "one"), (good, bad, "other"), (bad, other_bad, "one"), (bad, bad, "one")]:
            with self.assertRaises(Unsteady) as caught:
                alike(one, other)
            self.assertEqual(caught.exception.which, which)

    def test_random_programs(self):
        generator = random.Random(54)
        seen = {"alike": 0, "not": 0}
        while min(seen.values()) < 15:
            schema = random_schema(generator)
            programs = [random_program(generator, schema, 5) for _ in range(8)]
            steady_ones = [program for program in programs if is_steady(program)]
            for one, other in zip(steady_ones, steady_ones[1:]):
                if one.width != other.width:
                    continue
                if alike(one, other) is None:
                    self.are_alike(one, other)
                    seen["alike"] += 1
                else:
                    self.are_not_alike(one, other)
                    seen["not"] += 1


class ErrorsTest(unittest.TestCase):
    def test_schemas_come_before_widths_and_steadiness(self):
        steady_one, bad = program_of(ROADS), program_of(OUT, ("take", "t", "r", (1,)))
        away = made(2)
        for program in [steady_one, bad]:
            for width in [0, 1, 2]:
                with self.assertRaises(SchemaMismatch):
                    tells(program, asked(width, schema=away))
            for other in [program_of(ROADS, schema=away), program_of(OUT, schema=away), program_of(schema=away)]:
                with self.assertRaises(SchemaMismatch):
                    alike(program, other)
                with self.assertRaises(SchemaMismatch):
                    alike(other, program)

    def test_widths_come_before_steadiness(self):
        steady_one, bad = program_of(ROADS), program_of(OUT, ("take", "t", "r", (1,)))
        for program, width in [(steady_one, 1), (bad, 2), (bad, 0), (program_of(), 1)]:
            with self.assertRaises(WidthMismatch):
                tells(program, asked(width))
        for one, other in [(steady_one, bad), (bad, steady_one), (bad, program_of(OUT)), (program_of(), steady_one)]:
            with self.assertRaises(WidthMismatch):
                alike(one, other)


def greatest(schema, calls, both):
    """Return a program with so many calls of out in a row, and its relation with itself where both is True."""
    steps = [START]
    for at in range(calls):
        origin = steps[-1][1]
        items = ((7,),) if at == 0 else (2 * at - 1,)
        steps.append(("call", "c" + "abcd"[at], origin, "out", items))
    if both:
        steps += [("both", "x", steps[-1][1], steps[-1][1]), ("both", "y", "x", "x")]
    return Program(schema, steps)


class LimitTest(PairCase):
    """Point 54: neither raises LimitExceeded, and some runs raise none."""

    def test_neither_raises_any(self):
        for cap in [1, 2, 3, 4]:
            schema = made(cap)
            for calls in [1, 2, 3, 4]:
                program = greatest(schema, calls, True)
                self.is_not_told(program, Question(schema, program.width, []))
        free = made(None)
        for calls in [3, 4]:
            one, other = greatest(free, calls, True), greatest(free, calls, False)
            self.are_alike(one, other)

    def test_runs_of_4_parts_of_3_calls_of_caps_up_to_2(self):
        schema = made(2)
        steps = [START]
        for at in range(3):
            steps.append(("call", "c" + "abcd"[at], steps[-1][1], "some", ()))
        steps += [("both", "x", "cc", "cc"), ("both", "y", "x", "x")]
        for program in [greatest(schema, 3, True), Program(schema, steps)]:
            self.assertTrue(is_small(program))
            for parts in [[], list(steady(program.under(schema.uncapped(["out", "some"])))[1].part_list())]:
                self.is_not_told(program, Question(schema, program.width, parts))

    def test_runs_of_4_parts_of_2_calls_of_any_caps(self):
        for cap in [3, 4]:
            schema = made(cap)
            pair = Program(schema, [START, ("call", "a", "s", "some", ()), ("pair", "b", "a", "a"), ("both", "c", "b", "b")])
            for program in [greatest(schema, 2, True), pair]:
                self.assertTrue(is_small(program))
                self.is_not_told(program, Question(schema, program.width, []))


class SharingTest(unittest.TestCase):
    """Points 2 and 78."""

    def test_the_arguments_do_not_change(self):
        bad, good = program_of(OUT), program_of(ROADS)
        question = asked(2, ((X, Y), [("road", (X, Y))]), ((1, 2), []))
        before = bad.step_list(), good.step_list(), question.part_list()
        tells(bad, question)
        tells(good, question)
        alike(good, program_of(ROADS, ("take", "t", "r", (1, 0))))
        self.assertEqual((bad.step_list(), good.step_list(), question.part_list()), before)

    def test_changes_to_what_is_returned(self):
        bad, good = program_of(OUT), program_of(ROADS)
        question = asked(2, ((1, 2), []))
        for call in [lambda: tells(bad, question), lambda: tells(good, question),
                     lambda: alike(good, program_of(("take", "t", "s", ((1,), (2,)))))]:
            store, choices = call()
            expected = {key: list(choices[key]) for key in choices}
            for rows in choices.values():
                rows.clear()
            choices[("out", (1,))] = []
            choices.clear()
            again, same = call()
            self.assertEqual((again, same), (store, expected))


class InterfaceTest(unittest.TestCase):
    def test_names_and_arguments(self):
        for name, expected in [("tells", ["program", "question"]), ("alike", ["one", "other"])]:
            function = getattr(tells_module, name)
            self.assertEqual(list(inspect.signature(function).parameters), expected)
            self.assertEqual(function.__module__, "cappedcalls.tells")


if __name__ == "__main__":
    unittest.main()
