"""Points 2, 21 to 28 and 78: which programs are steady, and what shows it."""

import inspect
import itertools
import random
import unittest

from cappedcalls import steady as steady_module
from cappedcalls.answers import Answers
from cappedcalls.errors import LimitExceeded, UnknownName
from cappedcalls.programs import Program
from cappedcalls.questions import Question, answers_of
from cappedcalls.runs import outcome
from cappedcalls.schemas import Schema
from cappedcalls.steady import is_parting, is_steady, is_steady_with, steady
from cappedcalls.stores import Store
from cappedcalls.values import sorted_rows
from makers import (every_choices, random_choices, random_program, random_schema, random_store,
                    relations_the_long_way)

TABLES = {"road": 2, "town": 2, "flag": 1}
KEYS = {"town": (0,)}
START = ("start", "s")


def made(cap=1):
    services = {"out": ("road", (0,), cap), "outall": ("road", (0,), None), "into": ("road", (1,), None),
                "exact": ("road", (0, 1), 1), "roads": ("road", (), None), "some": ("town", (), cap),
                "named": ("town", (0,), 1), "flags": ("flag", (), cap)}
    return Schema(TABLES, KEYS, services)


def program_of(*steps, schema=None):
    return Program(schema or made(), [START, *steps])


def outcome_the_long_way(program, answers):
    found = relations_the_long_way(program, answers)
    return sorted_rows(list(found[program.step_list()[-1][1]]))


class SteadyCase(unittest.TestCase):
    def checked(self, program, stores=()):
        """Return what steady returns, and check it."""
        found = steady(program)
        self.assertIs(is_steady(program), found[0] == "steady")
        self.assertIs(type(found), tuple)
        if found[0] == "steady":
            self.check_question(program, found, stores)
        else:
            self.check_paper(program, found)
        return found

    def check_question(self, program, found, stores):
        self.assertEqual(len(found), 2)
        question = found[1]
        self.assertIsInstance(question, Question)
        self.assertEqual((question.schema, question.width), (program.schema, program.width))
        generator = random.Random(7)
        for store in [*stores, *[random_store(generator, program.schema, 4) for _ in range(6)]]:
            for choices in [None, random_choices(generator, store), random_choices(generator, store)]:
                expected = outcome_the_long_way(program, Answers(store, choices))
                self.assertEqual(answers_of(question, store), expected)

    def check_paper(self, program, found):
        self.assertEqual((found[0], len(found)), ("unsteady", 4))
        _, store, one, other = found
        self.assertIsInstance(store, Store)
        self.assertEqual((store.schema, type(one), type(other)), (program.schema, dict, dict))
        self.assertLessEqual(len(store), 20)
        first = outcome_the_long_way(program, Answers(store, one))
        second = outcome_the_long_way(program, Answers(store, other))
        self.assertNotEqual(first, second)
        if self.is_small(program):
            self.assertEqual(outcome(program, Answers(store, one)), first)
            self.assertEqual(outcome(program, Answers(store, other)), second)
            self.assertIs(is_parting(program, found), True)
            self.assertIs(is_parting(program, ("unsteady", store, other, one)), True)
            self.assertIs(is_parting(program, ("unsteady", store, one, one)), False)

    def is_small(self, program):
        """Return True if point 26 promises that a run over the paper's store raises no LimitExceeded."""
        steps = program.step_list()
        sizes = [Program(program.schema, steps[:many]) for many in range(1, len(steps) + 1)]
        caps = [cap for _, _, cap in program.schema.services.values()]
        return (all(size.part_count <= 4 and size.call_count <= 3 for size in sizes)
                and all(cap in (None, 1, 2) for cap in caps))

    def steady_program(self, *steps, schema=None):
        found = self.checked(program_of(*steps, schema=schema))
        self.assertEqual(found[0], "steady", steps)
        return found[1]

    def unsteady_program(self, *steps, schema=None):
        found = self.checked(program_of(*steps, schema=schema))
        self.assertEqual(found[0], "unsteady", steps)
        return found


class ExamplesTest(SteadyCase):
    def test_example(self):
        schema = Schema({"road": 2}, {}, {"out": ("road", (0,), 1)})
        steps = [("start", "s"), ("call", "c", "s", "out", ((1,),))]
        ends = Program(schema, steps + [("take", "t", "c", (1,))])
        any_road = Program(schema, steps + [("take", "t", "c", ())])
        self.assertEqual([is_steady(ends), is_steady(any_road)], [False, True])
        self.assertEqual([self.checked(ends)[0], self.checked(any_road)[0]], ["unsteady", "steady"])


class WholeServicesTest(SteadyCase):
    def test_no_cap(self):
        question = self.steady_program(("call", "a", "s", "roads", ()))
        self.assertEqual(answers_of(question, Store(made(), {"road": [(2, 1), (1, 2)]})), [(1, 2), (2, 1)])
        self.steady_program(("call", "a", "s", "roads", ()), ("call", "b", "a", "outall", (1,)),
                            ("take", "c", "b", (0, 3)))

    def test_a_whole_key(self):
        self.steady_program(("call", "a", "s", "roads", ()), ("call", "b", "a", "named", (1,)),
                            ("take", "c", "b", (3,)))

    def test_all_columns(self):
        self.steady_program(("call", "a", "s", "roads", ()), ("call", "b", "a", "exact", (1, 0)))

    def test_start_alone(self):
        self.assertEqual(answers_of(self.steady_program(), Store(made(), {})), [()])
        self.steady_program(("take", "a", "s", ((1,), ("x",))))

    def test_programs_without_capped_services(self):
        for seed in range(60):
            generator = random.Random(seed)
            schema = random_schema(generator, caps=(None,))
            self.assertEqual(self.checked(random_program(generator, schema))[0], "steady")


class CappedCallTest(SteadyCase):
    def test_its_row_is_taken(self):
        for steps in [[], [("take", "b", "a", (1,))], [("take", "b", "a", (0, 1))]]:
            self.unsteady_program(("call", "a", "s", "out", ((1,),)), *steps)
        self.steady_program(("call", "a", "s", "out", ((1,),)), ("take", "b", "a", (0,)))

    def test_its_row_is_asked_for(self):
        for cap in [1, 2, 3, 4]:
            question = self.steady_program(("call", "a", "s", "flags", ()), ("take", "b", "a", ()), schema=made(cap))
            self.assertEqual(answers_of(question, Store(made(cap), {"flag": [(1,), (2,)]})), [()])
            self.assertEqual(answers_of(question, Store(made(cap), {})), [])

    def test_its_row_is_tested_by_a_where(self):
        self.unsteady_program(("call", "a", "s", "out", ((1,),)), ("where", "b", "a", 1, (2,)), ("take", "c", "b", ()))
        self.unsteady_program(("call", "a", "s", "out", ((1,),)), ("where", "b", "a", 1, 0), ("take", "c", "b", ()))
        self.steady_program(("call", "a", "s", "out", ((1,),)), ("where", "b", "a", 0, (1,)), ("take", "c", "b", ()))

    def test_a_where_of_two_different_values(self):
        question = self.steady_program(("call", "a", "s", "out", ((1,),)), ("where", "b", "a", 0, (2,)))
        self.assertEqual(answers_of(question, Store(made(), {"road": [(1, 2), (2, 1)]})), [])
        self.steady_program(("call", "a", "s", "out", ((1,),)), ("where", "b", "a", 1, (2,)),
                            ("where", "c", "b", 1, (3,)))
        self.steady_program(("take", "a", "s", ((1,), ("x",))), ("where", "b", "a", 0, 1),
                            ("call", "c", "b", "flags", ()))

    def test_both_with_a_part_that_is_dropped(self):
        self.steady_program(("call", "a", "s", "out", ((1,),)), ("where", "b", "a", 0, (2,)),
                            ("call", "c", "s", "roads", ()), ("both", "d", "b", "c"))

    def test_joined_back_by_an_uncapped_service(self):
        # The capped call only tells that there is a road from 1; the other service returns all of them.
        steps = [("call", "a", "s", "out", ((1,),)), ("call", "b", "a", "outall", (0,))]
        self.steady_program(*steps, ("take", "c", "b", (2, 3)))
        self.unsteady_program(*steps)
        self.unsteady_program(*steps, ("where", "c", "b", 1, 3), ("take", "d", "c", (2, 3)))

    def test_it_is_covered_by_an_uncapped_service(self):
        steps = [("call", "a", "s", "out", ((1,),)), ("call", "b", "s", "outall", ((1,),))]
        self.steady_program(*steps, ("both", "c", "a", "b"))
        self.steady_program(*steps, ("both", "c", "b", "a"))
        self.unsteady_program(("call", "a", "s", "out", ((1,),)), ("call", "b", "s", "outall", ((2,),)),
                              ("both", "c", "a", "b"))

    def test_its_row_opens_another_call(self):
        self.unsteady_program(("call", "a", "s", "out", ((1,),)), ("call", "b", "a", "outall", (1,)),
                              ("take", "c", "b", ()))
        self.steady_program(("call", "a", "s", "roads", ()), ("call", "b", "a", "out", (1,)),
                            ("take", "c", "b", (0, 1)))

    def test_a_service_that_is_not_called(self):
        self.steady_program(("call", "a", "s", "roads", ()), ("call", "b", "a", "outall", (1,)))
        alone = Schema(TABLES, KEYS, {"outall": ("road", (0,), None), "roads": ("road", (), None)})
        self.steady_program(("call", "a", "s", "roads", ()), ("call", "b", "a", "outall", (1,)), schema=alone)


class CapsTest(SteadyCase):
    def flags(self, many, *steps, cap):
        calls = [("call", "f" + "abcd"[at], "s" if not at else "f" + "abcd"[at - 1], "flags", ()) for at in range(many)]
        return self.checked(program_of(*calls, *steps, schema=made(cap)))

    def test_more_different_rows_than_the_cap(self):
        # Values that are all different, one for each row of the one call: more than the cap
        # never are, so the program has no outcome; as many may be.
        for cap, many in itertools.product([1, 2, 3, 4], [1, 2, 3, 4]):
            last = "f" + "abcd"[many - 1]
            wheres = []
            for at in range(many):
                wheres.append(("where", "w" + "abcd"[at], wheres[-1][1] if wheres else last, at, (at + 1,)))
            found = self.flags(many, *wheres, ("take", "t", wheres[-1][1], ()), cap=cap)
            self.assertEqual(found[0], "steady" if many > cap else "unsteady")

    def test_rows_that_are_asked_for(self):
        for cap, many in itertools.product([1, 2, 3, 4], [1, 2, 3, 4]):
            found = self.flags(many, ("take", "t", "f" + "abcd"[many - 1], ()), cap=cap)
            self.assertEqual(found[0], "steady")

    def test_cap_1_makes_two_rows_one(self):
        steps = [("call", "a", "s", "out", ((1,),)), ("call", "b", "a", "out", ((1,),)), ("where", "c", "b", 1, 3),
                 ("take", "d", "c", ())]
        self.steady_program(*steps)
        # With cap 2 the rows may differ, but each of them is equal to itself.
        self.steady_program(*steps, schema=made(2))

    def test_two_calls_of_one_capped_service(self):
        steps = [("call", "a", "s", "roads", ()), ("call", "b", "a", "out", (0,)), ("call", "c", "b", "out", (1,))]
        self.unsteady_program(*steps)
        self.steady_program(*steps, ("take", "d", "c", (0, 1)))
        self.unsteady_program(*steps, ("where", "d", "c", 3, 5), ("take", "e", "d", (0, 1)))
        self.unsteady_program(*steps, ("where", "d", "c", 5, (1,)), ("take", "e", "d", ()))
        self.steady_program(*steps, ("where", "d", "c", 4, (1,)), ("take", "e", "d", ()))
        # The two calls are one where the road goes back to its start.
        self.steady_program(("call", "a", "s", "roads", ()), ("where", "b", "a", 0, 1), ("call", "c", "b", "out", (0,)),
                            ("call", "d", "c", "out", (1,)), ("where", "e", "d", 3, 5), ("take", "f", "e", (0, 1)))

    def test_different_rows_of_cap_2(self):
        steps = [("call", "a", "s", "out", ((1,),)), ("where", "b", "a", 1, (2,)), ("call", "c", "b", "out", ((1,),)),
                 ("where", "d", "c", 3, (3,))]
        self.steady_program(*steps, ("take", "e", "d", ()))
        self.unsteady_program(*steps, ("take", "e", "d", ()), schema=made(2))
        more = [*steps, ("call", "e", "d", "out", ((1,),)), ("where", "f", "e", 5, (4,))]
        self.steady_program(*more, ("take", "g", "f", ()), schema=made(2))
        self.unsteady_program(*more, ("take", "g", "f", ()), schema=made(3))


class KeysTest(SteadyCase):
    def test_keys_join_two_rows(self):
        # The two calls name the same town, so they tell the same row of it.
        steps = [("call", "a", "s", "some", ()), ("call", "b", "a", "named", (0,)), ("where", "c", "b", 1, 3)]
        self.steady_program(*steps, ("take", "d", "c", ()))
        without = Schema(TABLES, {}, {**made().services, "named": ("town", (0,), None)})
        self.steady_program(*steps, ("take", "d", "c", ()), schema=without)
        tested = [("call", "a", "s", "some", ()), ("call", "b", "a", "named", (0,)), ("where", "c", "b", 1, (1,)),
                  ("where", "d", "c", 3, (2,)), ("take", "e", "d", ())]
        self.steady_program(*tested)
        self.unsteady_program(*tested, schema=without)

    def test_a_key_that_two_values_break(self):
        steps = [("call", "a", "s", "named", ((1,),)), ("call", "b", "s", "named", ((1,),)), ("pair", "c", "a", "b"),
                 ("where", "d", "c", 1, (5,)), ("where", "e", "d", 3, (6,)), ("pair", "f", "e", "s"),
                 ("call", "g", "f", "flags", ())]
        question = self.steady_program(*steps)
        self.assertEqual(answers_of(question, Store(made(), {"town": [(1, 5)], "flag": [(1,)]})), [])

    def test_a_key_opens_a_cap(self):
        # Both rows of town are one by the key, so the two calls of out are one, too.
        steps = [("call", "a", "s", "named", ((1,),)), ("call", "b", "a", "out", (1,)),
                 ("call", "c", "b", "named", ((1,),)), ("call", "d", "c", "out", (5,)),
                 ("where", "e", "d", 3, (1,)), ("where", "f", "e", 7, (2,)), ("take", "g", "f", ())]
        self.steady_program(*steps)
        self.unsteady_program(*steps, schema=made(2))

    def test_the_first_row_of_a_table_with_a_key(self):
        self.unsteady_program(("call", "a", "s", "some", ()))
        self.unsteady_program(("call", "a", "s", "some", ()), ("take", "b", "a", (0,)))
        self.steady_program(("call", "a", "s", "some", ()), ("take", "b", "a", ()))


class FormsTest(SteadyCase):
    def test_both(self):
        self.steady_program(("call", "a", "s", "roads", ()), ("call", "b", "s", "outall", ((1,),)),
                            ("both", "c", "a", "b"))
        self.unsteady_program(("call", "a", "s", "flags", ()), ("take", "b", "s", ((1,),)), ("both", "c", "a", "b"))
        self.steady_program(("call", "a", "s", "flags", ()), ("take", "b", "a", ()), ("both", "c", "b", "s"))

    def test_pair(self):
        self.steady_program(("call", "a", "s", "roads", ()), ("pair", "b", "a", "a"))
        self.unsteady_program(("call", "a", "s", "flags", ()), ("pair", "b", "a", "a"))
        self.unsteady_program(("call", "a", "s", "roads", ()), ("call", "b", "s", "flags", ()), ("pair", "c", "a", "b"))
        self.steady_program(("call", "a", "s", "roads", ()), ("call", "b", "s", "flags", ()), ("pair", "c", "b", "a"),
                            ("take", "d", "c", (2, 1)))

    def test_the_parts_of_a_pair_have_no_variable_in_common(self):
        question = self.steady_program(("call", "a", "s", "roads", ()), ("pair", "b", "a", "a"),
                                       ("where", "c", "b", 1, 2), ("take", "d", "c", (0, 3)))
        store = Store(made(), {"road": [(1, 2), (2, 3), (3, 1)]})
        self.assertEqual(answers_of(question, store), [(1, 3), (2, 1), (3, 2)])

    def test_take_of_no_items(self):
        self.steady_program(("call", "a", "s", "flags", ()), ("take", "b", "a", ()), ("call", "c", "b", "roads", ()))

    def test_values_of_items(self):
        question = self.steady_program(("call", "a", "s", "outall", (("x",),)), ("take", "b", "a", ((7,), 1)))
        self.assertEqual(answers_of(question, Store(made(), {"road": [("x", 2), (7, 3)]})), [(7, 2)])

    def test_an_outcome_that_is_empty_is_steady(self):
        self.assertEqual(self.steady_program(("take", "a", "s", ((1,),)), ("where", "b", "a", 0, (2,))).width, 1)

    def test_numbers_of_the_program_are_not_taken_for_variables(self):
        # The small integers stand in the program, so the hiding store must do with others.
        for start in [0, 40]:
            wheres = [("where", "w" + "abcdefgh"[at], ["a", *["w" + letter for letter in "abcdefgh"]][at], 1,
                       (start + at,)) for at in range(2)]
            takes = [("take", "t", "s", tuple((start + at,) for at in range(12))), ("take", "u", "t", (0, 1)),
                     ("call", "a", "s", "out", ((start,),)), ("both", "b", "a", "u")]
            self.unsteady_program(*takes)
            self.unsteady_program(*takes[:3], wheres[0], ("take", "x", "wa", ()))
        equal = [("call", "a", "s", "flags", ())] + [("take", "t", "s", ((5,),)), ("both", "b", "a", "t")]
        self.unsteady_program(*equal)


class RandomTest(SteadyCase):
    def test_random_programs(self):
        found = {"steady": 0, "unsteady": 0}
        for seed in range(500):
            generator = random.Random(seed)
            schema = random_schema(generator)
            found[self.checked(random_program(generator, schema))[0]] += 1
        self.assertGreater(min(found.values()), 100)

    def test_programs_of_4_calls_and_16_parts(self):
        calls = [("call", "a", "s", "roads", ()), ("call", "b", "s", "out", ((1,),)), ("both", "c", "a", "b"),
                 ("pair", "d", "c", "c"), ("take", "e", "d", (0, 1, 3)), ("pair", "f", "d", "d")]
        for cap in [1, 2, 3, 4]:
            program = program_of(*calls, schema=made(cap))
            self.assertEqual((program.part_count, program.call_count), (16, 4))
            self.assertIs(is_steady(program), True)
            more = [*calls, ("where", "g", "f", 1, 3), ("take", "h", "g", (1, 5, 7))]
            self.assertIs(is_steady(program_of(*more, schema=made(cap))), True)
            only = [("call", "a", "s", "flags", ()), ("call", "b", "s", "flags", ()), ("both", "c", "a", "b"),
                    ("pair", "d", "c", "c"), ("pair", "e", "d", "d")]
            found = steady(program_of(*only, schema=made(cap)))
            self.assertEqual(found[0], "unsteady")
            self.assertLessEqual(len(found[1]), 20)
            self.assertIs(is_parting(program_of(*only, schema=made(cap)), found), True)

    def test_the_greatest_store(self):
        tables = {"road": 4}
        for cap in [1, 2, 3, 4]:
            schema = Schema(tables, {}, {"out": ("road", (0,), cap)})
            steps = [("call", "a", "s", "out", ((1,),)), ("call", "b", "a", "out", ((2,),)), ("take", "c", "b", (1,)),
                     ("call", "d", "c", "out", ((3,),)), ("take", "e", "d", (0, 2)), ("call", "f", "e", "out", ((4,),))]
            found = self.unsteady_program(*steps, schema=schema)
            self.assertLessEqual(len(found[1]), 4 + 4 * cap)

    def test_every_choice_of_small_stores(self):
        for seed in range(120):
            generator = random.Random(seed)
            schema = random_schema(generator, caps=(None, 1, 1, 2), most_width=2)
            program = random_program(generator, schema, 8)
            if is_steady(program):
                for _ in range(3):
                    store = random_store(generator, schema, 2, (1, 2))
                    outcomes = [outcome_the_long_way(program, Answers(store, choices))
                                for choices in itertools.islice(every_choices(store), 60)]
                    self.assertEqual(outcomes, outcomes[:1] * len(outcomes))


class NoLimitTest(SteadyCase):
    def test_steady_raises_none(self):
        # The outcome over the hiding store would have far more than 5,000 tuples.
        services = {"all": ("road", (), None), "out": ("road", (0,), 4)}
        schema = Schema({"road": 2}, {}, services)
        steps = [("call", "a", "s", "all", ()), ("call", "b", "s", "out", ((1,),)), ("both", "c", "a", "b"),
                 ("pair", "d", "c", "c"), ("take", "e", "d", (0, 1, 2)), ("take", "f", "d", (3, 0, 1)),
                 ("pair", "g", "e", "f")]
        self.assertEqual(steady(program_of(*steps, schema=schema))[0], "steady")
        last = [*steps, ("call", "h", "s", "out", ((2,),)), ("take", "i", "h", (1,))]
        found = steady(program_of(*last, schema=schema))
        self.assertEqual(found[0], "unsteady")
        self.assertLessEqual(len(found[1]), 20)

    def test_runs_over_the_store_raise_none(self):
        # 4 parts and 3 calls in a step that the last step does not use.
        steps = [("call", "a", "s", "roads", ()), ("call", "b", "s", "out", ((1,),)), ("both", "c", "a", "b"),
                 ("pair", "d", "c", "c"), ("call", "e", "d", "roads", ()),
                 ("call", "f", "s", "out", ((1,),)), ("call", "g", "f", "out", ((2,),)),
                 ("call", "h", "g", "out", ((3,),))]
        program = program_of(*steps, schema=made(2))
        self.assertTrue(self.is_small(program))
        self.assertEqual(self.checked(program)[0], "unsteady")


class PapersTest(SteadyCase):
    def setUp(self):
        self.program = program_of(("call", "a", "s", "out", ((1,),)))
        self.store = Store(made(), {"road": [(1, 2), (1, 3), (1, 4)]})
        self.one = {("out", (1,)): [(1, 2)]}
        self.other = {("out", (1,)): [(1, 4)]}

    def is_paper(self, *things):
        return is_parting(self.program, things)

    def test_right_papers(self):
        self.assertIs(self.is_paper("unsteady", self.store, self.one, self.other), True)
        self.assertIs(self.is_paper("unsteady", self.store, self.other, self.one), True)
        self.assertIs(self.is_paper("unsteady", self.store, {}, self.other), True)

    def test_equal_outcomes(self):
        self.assertIs(self.is_paper("unsteady", self.store, self.one, self.one), False)
        self.assertIs(self.is_paper("unsteady", self.store, self.one, {}), False)
        self.assertIs(self.is_paper("unsteady", self.store, {}, {}), False)
        asked = program_of(("call", "a", "s", "out", ((1,),)), ("take", "b", "a", ()))
        self.assertIs(is_parting(asked, ("unsteady", self.store, self.one, self.other)), False)

    def test_another_word(self):
        for word in ["steady", "", "Unsteady", None, 1, (), ["unsteady"], self.store]:
            self.assertIs(self.is_paper(word, self.store, self.one, self.other), False)

    def test_other_things(self):
        right = ("unsteady", self.store, self.one, self.other)
        for thing in [None, 0, 1, True, "", "unsteady", (), [], list(right), right[:3], right[:1], (*right, {}),
                      (*right, None), (right,), [right], right[1:], self.store, {}]:
            self.assertIs(is_parting(self.program, thing), False)

    def test_parts_of_other_kinds(self):
        for thing in [None, 1, "a", (), [], self.one]:
            self.assertIs(self.is_paper("unsteady", thing, self.one, self.other), False)
        for thing in [None, 1, "a", (), [], self.store, list(self.one.items())]:
            self.assertIs(self.is_paper("unsteady", self.store, thing, self.other), False)
            self.assertIs(self.is_paper("unsteady", self.store, self.one, thing), False)

    def test_the_schema_of_the_store(self):
        rows = {"road": self.store["road"]}
        equal = Store(made(), rows)
        self.assertIs(self.is_paper("unsteady", equal, self.one, self.other), True)
        for schema in [made().uncapped(["some"]), made(2), Schema(TABLES, {}, {"out": ("road", (0,), 1)})]:
            self.assertIs(self.is_paper("unsteady", Store(schema, rows), self.one, self.other), False)

    def test_wrong_choices(self):
        for wrong in [{("out", (1,)): []}, {("out", (1,)): [(1, 9)]}, {("out", (1,)): [(1, 2), (1, 3)]},
                      {("out", (1,)): ((1, 3),)}, {("zz", ()): []}, {("out", ()): []}, {("out", (1, 2)): []},
                      {("roads", ()): [(1, 2)]}, {("out", (10 ** 30,)): []}]:
            self.assertIs(self.is_paper("unsteady", self.store, wrong, self.other), False)
            self.assertIs(self.is_paper("unsteady", self.store, self.one, wrong), False)

    def test_choices_of_other_calls(self):
        one = {**self.one, ("out", (2,)): [], ("roads", ()): self.store["road"][::-1]}
        self.assertIs(self.is_paper("unsteady", self.store, one, self.other), True)

    def large(self, many, cap):
        """Return a program and a store over which its pair has many tuples times the cap."""
        schema = Schema({"road": 2, "flag": 1}, {}, {"all": ("road", (), None), "flags": ("flag", (), None),
                                                     "out": ("road", (0,), cap)})
        steps = [START, ("call", "a", "s", "all", ()), ("call", "b", "s", "flags", ()), ("pair", "c", "a", "b"),
                 ("call", "d", "s", "out", ((1,),))]
        rows = {"road": [(1, number) for number in range(100)], "flag": [(number,) for number in range(many)]}
        return Program(schema, steps), Store(schema, rows)

    def test_runs_with_more_than_5000_tuples(self):
        one, other = {("out", (1,)): [(1, 2)]}, {("out", (1,)): [(1, 3)]}
        program, store = self.large(50, 1)
        self.assertIs(is_parting(program, ("unsteady", store, one, other)), True)
        program, store = self.large(51, 1)
        for pair in [(one, other), (one, one), ({}, other)]:
            with self.assertRaises(LimitExceeded) as caught:
                is_parting(program, ("unsteady", store, *pair))
            self.assertEqual(caught.exception.limit, 5000)

    def test_one_run_with_more_than_5000_tuples(self):
        # One choice opens 72 flags twice, which is 5,184 tuples; the other one opens none.
        schema = Schema({"road": 2, "flag": 2}, {}, {"out": ("road", (0,), 1), "flags": ("flag", (0,), None)})
        steps = [START, ("call", "a", "s", "out", ((1,),)), ("call", "b", "a", "flags", (1,)), ("pair", "c", "b", "b"),
                 ("take", "d", "s", ())]
        for many, error in [(70, False), (71, True)]:
            store = Store(schema, {"road": [(1, 2), (1, 3)], "flag": [(2, number) for number in range(many)]})
            one, other = {("out", (1,)): [(1, 2)]}, {("out", (1,)): [(1, 3)]}
            for pair in [(one, other), (other, one)]:
                if error:
                    with self.assertRaises(LimitExceeded) as caught:
                        is_parting(Program(schema, steps), ("unsteady", store, *pair))
                    self.assertEqual(caught.exception.limit, 5000)
                else:
                    self.assertIs(is_parting(Program(schema, steps), ("unsteady", store, *pair)), False)

    def test_wrong_choices_come_before_the_runs(self):
        program, store = self.large(51, 1)
        wrong = {("out", (1,)): []}
        self.assertIs(is_parting(program, ("unsteady", store, wrong, {})), False)
        self.assertIs(is_parting(program, ("unsteady", store, {}, wrong)), False)

    def test_nothing_is_modified(self):
        paper = ("unsteady", self.store, self.one, self.other)
        is_parting(self.program, paper)
        self.assertEqual(paper, ("unsteady", self.store, {("out", (1,)): [(1, 2)]}, {("out", (1,)): [(1, 4)]}))
        self.assertEqual(self.store, Store(made(), {"road": [(1, 2), (1, 3), (1, 4)]}))
        self.assertEqual(self.program, program_of(("call", "a", "s", "out", ((1,),))))


class WithTest(SteadyCase):
    def setUp(self):
        steps = [START, ("call", "a", "s", "out", ((1,),)), ("call", "b", "s", "flags", ()), ("pair", "c", "a", "b")]
        self.program = Program(made(), steps)

    def test_names(self):
        for names, expected in [([], False), (["out"], False), (["flags"], False), (["out", "flags"], True),
                                (["flags", "out", "out"], True), (["some"], False),
                                (made().service_names(), True), (made().capped_names(), True)]:
            self.assertIs(is_steady_with(self.program, names), expected)

    def test_no_name(self):
        for program in [self.program, program_of(("call", "a", "s", "roads", ()))]:
            self.assertIs(is_steady_with(program, []), is_steady(program))

    def test_unknown_names(self):
        for names, name in [(["zz"], "zz"), (["out", "zz", "aa"], "zz"), (["out", "", "zz"], ""), (["road"], "road"),
                            (["out", "flags", "town"], "town")]:
            with self.assertRaises(UnknownName) as caught:
                is_steady_with(self.program, names)
            self.assertEqual(caught.exception.name, name)
        self.assertIs(is_steady(self.program), False)

    def test_more_names_do_not_always_help(self):
        # The one row of b cannot be 1 and 2 at once, so c is never called, as long as b has its cap.
        schema = Schema({"x": 1, "y": 1, "z": 1}, {}, {"a": ("x", (), 1), "b": ("y", (), 1), "c": ("z", (), 1)})
        steps = [("call", "d", "s", "b", ()), ("where", "e", "d", 0, (1,)), ("call", "f", "e", "b", ()),
                 ("where", "g", "f", 1, (2,)), ("call", "h", "g", "c", ()), ("take", "i", "h", (2,)),
                 ("call", "j", "s", "a", ()), ("both", "k", "i", "j")]
        program = program_of(*steps, schema=schema)
        for names, expected in [([], False), (["a"], True), (["b"], False), (["c"], False), (["a", "b"], False),
                                (["a", "c"], True), (["b", "c"], False), (["a", "b", "c"], True)]:
            self.assertIs(is_steady_with(program, names), expected, names)
            self.assertEqual(self.checked(program.under(schema.uncapped(names)))[0] == "steady", expected)

    def test_services_that_are_not_called_have_no_effect(self):
        for seed in range(80):
            generator = random.Random(seed)
            program = random_program(generator, random_schema(generator))
            called = {step[3] for step in program.step_list() if step[0] == "call"}
            others = [name for name in program.schema.service_names() if name not in called]
            self.assertIs(is_steady_with(program, others), is_steady(program))
            self.assertIs(is_steady_with(program, program.schema.service_names()), True)

    def test_the_list_is_not_modified(self):
        names = ["flags", "out"]
        is_steady_with(self.program, names)
        self.assertEqual(names, ["flags", "out"])
        self.assertEqual(self.program.schema, made())


class ChangedByTheCallerTest(SteadyCase):
    def test_changes_to_a_paper(self):
        program = program_of(("call", "a", "s", "out", ((1,),)), ("call", "b", "a", "flags", ()))
        steps = program.step_list()
        _, store, one, other = steady(program)
        for choices in [one, other]:
            for rows in choices.values():
                rows.clear()
            choices.clear()
        store["road"].clear()
        self.checked(program)
        self.assertEqual(program, Program(made(), steps))

    def test_the_dicts_share_nothing(self):
        program = program_of(("call", "a", "s", "out", ((1,),)))
        _, store, one, other = steady(program)
        before = {call: list(rows) for call, rows in other.items()}
        for rows in one.values():
            rows.append(None)
        one.clear()
        self.assertEqual(other, before)
        self.assertEqual(Answers(store, other).choices, {call: sorted_rows(rows) for call, rows in before.items()})

    def test_changes_to_a_question(self):
        program = program_of(("call", "a", "s", "roads", ()))
        question = steady(program)[1]
        for _, atoms in question.part_list():
            atoms.clear()
        question.part_list().clear()
        self.assertEqual(answers_of(question, Store(made(), {"road": [(1, 2)]})), [(1, 2)])
        self.checked(program)

    def test_the_program_does_not_change(self):
        for seed in range(20):
            generator = random.Random(seed)
            schema = random_schema(generator)
            program = random_program(generator, schema)
            steps = program.step_list()
            services = schema.services
            steady(program)
            is_steady(program)
            is_steady_with(program, schema.capped_names())
            self.assertEqual((program.step_list(), program.schema.services), (steps, services))


class InterfaceTest(unittest.TestCase):
    def test_names_and_arguments(self):
        for name, arguments in [("steady", ["program"]), ("is_steady", ["program"]),
                                ("is_steady_with", ["program", "services"]), ("is_parting", ["program", "paper"])]:
            function = getattr(steady_module, name)
            self.assertEqual(function.__module__, "cappedcalls.steady")
            self.assertEqual(list(inspect.signature(function).parameters), arguments)


if __name__ == "__main__":
    unittest.main()
