"""Points 2, 46 to 51 and 78: questions within others, the papers that show it, and least questions."""

import inspect
import itertools
import random
import unittest

from cappedcalls import within as within_module
from cappedcalls.errors import InvalidQuestion, SchemaMismatch, WidthMismatch
from cappedcalls.questions import Question, answers_of
from cappedcalls.schemas import Schema
from cappedcalls.stores import Store
from cappedcalls.within import is_paper, is_within, least, paper_of, within
from makers import (answers_the_long_way, is_entry_the_long_way, is_void_the_long_way, random_question, random_schema,
                    random_store)

GREATEST = 10 ** 30 - 1
ROADS = {"roads": ("road", (0,), None)}
X, Y, Z = (0,), (1,), (2,)


def made(keys=None, services=None):
    return Schema({"road": 2, "town": 3, "flag": 1}, keys or {}, services or ROADS)


KEYED = made({"road": (0,), "town": (0, 1)})


def asked(width, *parts, schema=None):
    return Question(schema or made(), width, list(parts))


def keyed(width, *parts):
    return asked(width, *parts, schema=KEYED)


def road(one, other):
    return "road", (one, other)


class WithinCase(unittest.TestCase):
    def is_in(self, one, other):
        """Check that one is within other, and all that is said of it."""
        self.assertIsNone(within(one, other))
        self.assertIs(is_within(one, other), True)
        paper = paper_of(one, other)
        self.assertIs(type(paper), list)
        self.assertEqual(len(paper), len(one.part_list()))
        for entry, part in zip(paper, one.part_list()):
            self.assertTrue(is_entry_the_long_way(entry, part, other.part_list(), one.schema), entry)
        self.assertIs(is_paper(one, other, paper), True)
        generator = random.Random(3)
        for _ in range(5):
            store = random_store(generator, one.schema)
            self.assertLessEqual(answers_the_long_way(one, store), answers_the_long_way(other, store))

    def is_not_in(self, one, other):
        """Check that one is not within other, and return the store and the row that show it."""
        found = within(one, other)
        self.assertIs(type(found), tuple)
        store, row = found
        self.assertIsInstance(store, Store)
        self.assertEqual(store.schema, one.schema)
        self.assertLessEqual(len(store), 40)
        self.assertIn(row, answers_of(one, store))
        self.assertNotIn(row, answers_of(other, store))
        self.assertIs(is_within(one, other), False)
        self.assertIsNone(paper_of(one, other))
        empty = [(0, {}) for _ in one.part_list()]
        self.assertIs(is_paper(one, other, empty), False)
        return store, row


class ExampleTest(unittest.TestCase):
    def test_example(self):
        schema = Schema({"road": 2}, {"road": (0,)}, {"roads": ("road", (0,), None)})
        one = Question(schema, 1, [(((1,),), [("road", (5, (1,))), ("road", (5, (2,)))])])
        other = Question(schema, 1, [(((8,),), [("road", (5, (8,)))])])
        self.assertIs(is_within(other, one), True)
        self.assertIs(is_paper(one, other, [(0, {(8,): (2,)})]), True)


class ContainmentTest(WithinCase):
    def test_questions_without_parts(self):
        some = asked(1, ((X,), [road(X, Y)]))
        self.is_in(asked(1), asked(1))
        self.is_in(asked(1), some)
        self.is_not_in(some, asked(1))
        self.assertEqual(paper_of(asked(1), some), [])

    def test_parts_without_atoms(self):
        seven, eight = (((7,), [])), ((8,), [])
        self.is_in(asked(1, seven), asked(1, eight, seven))
        self.assertEqual(self.is_not_in(asked(1, seven, eight), asked(1, seven))[1], (8,))
        self.is_in(asked(1, (("a",), [road(X, Y)])), asked(1, (("a",), [])))
        store, row = self.is_not_in(asked(1, (("a",), [])), asked(1, (("a",), [road(X, Y)])))
        self.assertEqual((len(store), row), (0, ("a",)))

    def test_width_0(self):
        loop, any_road = ((), [road(X, X)]), ((), [road(X, Y)])
        self.is_in(asked(0, loop), asked(0, any_road))
        self.assertEqual(self.is_not_in(asked(0, any_road), asked(0, loop))[1], ())
        self.is_in(asked(0, any_road, loop), asked(0, ((), [])))
        self.is_not_in(asked(0, ((), [])), asked(0))

    def test_longer_paths(self):
        two = ((X,), [road(X, Y), road(Y, Z)])
        one = ((X,), [road(X, Y)])
        self.is_in(asked(1, two), asked(1, one))
        self.is_not_in(asked(1, one), asked(1, two))
        self.is_in(asked(1, ((X,), [road(X, X)])), asked(1, two))

    def test_one_part_is_enough_for_each(self):
        ones = [((X,), [road(X, at)]) for at in range(6)]
        self.is_in(asked(1, *ones[2:4]), asked(1, *ones))
        store, _ = self.is_not_in(asked(1, *ones), asked(1, *ones[:5]))
        self.assertEqual([row[1] for row in store["road"]], [5])
        self.is_in(asked(1, *ones), asked(1, ((Y,), [road(Y, X)])))

    def test_the_same_variable_numbers(self):
        self.is_in(asked(2, ((X, Y), [road(X, Y)])), asked(2, ((Y, X), [road(Y, X)])))
        self.is_not_in(asked(2, ((X, Y), [road(X, Y)])), asked(2, ((X, Y), [road(Y, X)])))
        self.is_in(asked(1, ((X,), [road(X, Y)]), ((Y,), [road(Y, X)])), asked(1, ((X,), [road(X, Z)])))
        # A variable of the same number in another part has nothing to do with it.
        self.is_not_in(asked(1, ((X,), [road(X, Y)])), asked(1, ((X,), [road(X, Y), road(Y, X)]), ((Y,), [road(X, Y)])))

    def test_variables_of_any_number(self):
        great, less = (GREATEST,), (GREATEST - 1,)
        self.is_in(asked(2, ((great, less), [road(great, less)])), asked(2, ((X, great), [road(X, great)])))
        self.is_not_in(asked(1, ((great,), [road(great, less)])), asked(1, ((great,), [road(great, great)])))

    def test_values(self):
        self.is_in(asked(1, ((X,), [road(X, 7)])), asked(1, ((X,), [road(X, Y)])))
        self.is_not_in(asked(1, ((X,), [road(X, Y)])), asked(1, ((X,), [road(X, 7)])))
        self.is_not_in(asked(1, ((X,), [road(X, "x")])), asked(1, ((X,), [road(X, "y")])))
        self.is_not_in(asked(1, ((1,), [])), asked(1, ((X,), [road(X, Y)])))
        self.is_in(asked(1, ((1,), [road(1, 2)])), asked(1, ((X,), [road(X, Y)])))

    def test_the_new_values_stand_in_neither_question(self):
        low = list(range(30))
        parts = [((X,), [road(X, at)]) for at in low] + [((at,), [road(at, X)]) for at in low]
        store, row = self.is_not_in(asked(1, ((X,), [road(X, Y)])), asked(1, *parts))
        self.assertNotIn(row[0], low)
        own = asked(1, ((X,), [road(X, Y), *[road(at, at) for at in range(3)]]))
        self.is_not_in(own, asked(1, ((X,), [road(X, X)])))
        self.is_not_in(own, asked(1, ((0,), [road(0, 0)])))

    def test_numbers_below_0_and_great_ones(self):
        parts = [((X,), [road(X, at)]) for at in [-GREATEST, GREATEST, -1, 0, 1, "a"]]
        self.is_in(asked(1, *parts), asked(1, *parts[::-1]))
        for at in range(len(parts)):
            self.is_not_in(asked(1, *parts), asked(1, *parts[:at], *parts[at + 1:]))

    def test_the_greatest_store(self):
        towns = [("town", ((3 * at,), (3 * at + 1,), (3 * at + 2,))) for at in range(5)]
        store, _ = self.is_not_in(asked(0, ((), towns)), asked(0, ((), [*towns[:1], ("flag", (X,))])))
        self.assertEqual(len(store), 5)


class JoinedTest(WithinCase):
    def test_void_in_one_step(self):
        void = ((X,), [road(X, 1), road(X, 2)])
        self.is_in(keyed(1, void), keyed(1))
        self.assertEqual(paper_of(keyed(1, void), keyed(1)), [("void",)])
        self.is_not_in(asked(1, void), asked(1))

    def test_void_in_several_steps(self):
        # X and Y are joined by the first two, 3 and Z by the next two, then 3 and 4.
        void = ((X,), [road(5, X), road(5, Y), road(X, 3), road(Y, Z), ("town", (Z, 1, 4))])
        self.is_not_in(keyed(1, void), keyed(1))
        void[1][4] = ("road", (6, 6))
        self.is_not_in(keyed(1, void), keyed(1))
        void[1][4] = road(X, 4)
        self.is_in(keyed(1, void), keyed(1))
        self.is_not_in(asked(1, void), asked(1))

    def test_void_by_two_tables(self):
        void = ((), [road(5, X), road(5, Y), ("town", (X, 1, 8)), ("town", (Y, 1, 9))])
        self.is_in(keyed(0, void), keyed(0))
        other = ((), [road(5, X), road(5, Y), ("town", (X, 1, 8)), ("town", (Y, 2, 9))])
        self.is_not_in(keyed(0, other), keyed(0))

    def test_a_void_part_of_the_other_one_has_nothing_within(self):
        void = ((X,), [road(X, 1), road(X, 2)])
        self.is_not_in(keyed(1, ((X,), [road(X, 1)])), keyed(1, void))
        self.is_in(keyed(1, void), keyed(1, void))

    def test_within_only_because_of_a_key(self):
        one = ((X,), [road(5, X), road(5, Y), road(Y, 9)])
        other = ((X,), [road(X, 9)])
        self.is_in(keyed(1, one), keyed(1, other))
        self.is_not_in(asked(1, one), asked(1, other))

    def test_terms_that_are_joined_to_a_value(self):
        one = ((X, Y), [road(5, X), road(5, Y), road(5, 7)])
        self.is_in(keyed(2, one), keyed(2, ((7, 7), [road(5, 7)])))
        store, row = self.is_not_in(keyed(2, one), keyed(2, ((7, 8), [])))
        self.assertEqual((store["road"], row), ([(5, 7)], (7, 7)))

    def test_a_key_of_two_columns(self):
        one = ((X, Y), [("town", (1, 2, X)), ("town", (1, 2, Y))])
        self.is_in(keyed(2, one), keyed(2, ((X, X), [("town", (1, 2, X))])))
        half = ((X, Y), [("town", (1, 2, X)), ("town", (1, 3, Y))])
        self.is_not_in(keyed(2, half), keyed(2, ((X, X), [("town", (1, 2, X))])))

    def test_equal_terms_outside_of_the_key_join_nothing(self):
        one = ((X, Y), [road(X, 5), road(Y, 5)])
        self.is_not_in(keyed(2, one), keyed(2, ((X, X), [road(X, 5)])))

    def test_rows_of_two_tables_join_nothing(self):
        schema = Schema({"road": 2, "way": 2}, {"road": (0,), "way": (0,)}, {"roads": ("road", (0,), None)})
        one = Question(schema, 2, [((X, Y), [("road", (5, X)), ("way", (5, Y))])])
        self.is_not_in(one, Question(schema, 2, [((X, X), [("road", (5, X))])]))


class RandomTest(WithinCase):
    def test_random_questions(self):
        generator = random.Random(46)
        seen = {True: 0, False: 0}
        for _ in range(150):
            schema = random_schema(generator)
            width = generator.randint(0, 2)
            one = random_question(generator, schema, width, 3, 4)
            other = random_question(generator, schema, width, 3, 3)
            if generator.random() < 0.3:
                other = other | one
            seen[is_within(one, other)] += 1
            check = self.is_in if is_within(one, other) else self.is_not_in
            check(one, other)
        self.assertGreater(min(seen.values()), 20)


class ErrorsTest(unittest.TestCase):
    functions = [within, is_within, paper_of, lambda one, other: is_paper(one, other, None),
                 lambda one, other: is_paper(one, other, [])]

    def test_schemas_that_differ(self):
        for function in self.functions:
            for other in [keyed(1), asked(1, schema=made(services={"other": ("road", (0,), None)})), keyed(2)]:
                with self.assertRaises(SchemaMismatch):
                    function(asked(1), other)
                with self.assertRaises(SchemaMismatch):
                    function(other, asked(1))

    def test_widths_that_differ(self):
        for function in self.functions:
            for one, other in [(0, 1), (1, 0), (12, 11)]:
                with self.assertRaises(WidthMismatch):
                    function(asked(one), asked(other))

    def test_equal_schemas(self):
        self.assertTrue(is_within(asked(1), Question(made(), 1, [])))


class PaperTest(unittest.TestCase):
    def setUp(self):
        self.one = keyed(1, ((X,), [road(5, X), road(5, Y)]), ((X,), [road(X, 1), road(X, 2)]))
        self.other = keyed(1, ((9,), [road(9, 9)]), (((8,),), [road(5, (8,)), road(5, Z)]))

    def right(self, *entries):
        self.assertIs(is_paper(self.one, self.other, list(entries)), True, entries)

    def wrong(self, *entries):
        self.assertIs(is_paper(self.one, self.other, list(entries)), False, entries)

    def test_right_ones(self):
        for places in itertools.product([X, Y], repeat=2):
            self.right((1, dict(zip([(8,), Z], places))), ("void",))
        self.right(*paper_of(self.one, self.other))

    def test_the_void_entry(self):
        good = (1, {(8,): X, Z: X})
        self.wrong(("void",), ("void",))
        self.wrong(good, good)
        for entry in ["void", ["void"], (), ("void", "void"), ("empty",), None, ("void", {}), {}, (("void",),)]:
            self.wrong(good, entry)

    def test_the_index(self):
        for at in [0, 2, -1, True, False, None, "a", (1,), [1], 10 ** 40]:
            self.wrong((at, {(8,): X, Z: X}), ("void",))
        one = keyed(1, ((X,), [road(5, X)]), ((X,), [road(5, X)]))
        for at in [0, 1, False, True, -1, -2, 2]:
            self.assertIs(is_paper(one, one, [(at, {X: X}), (0, {X: X})]), at in (0, 1) and type(at) is int, at)

    def test_places_that_are_no_dict_of_the_variables(self):
        void = ("void",)
        for places in [{}, {(8,): X}, {Z: X}, {(8,): X, Z: X, Y: X}, {(8,): X, Y: X}, {(8,): X, Z: X, 5: 5},
                       [((8,), X), (Z, X)], None, "a", ((8,), Z), {8: X, 2: X}]:
            self.wrong((1, places), void)

    def test_a_variable_without_a_place_does_not_stand_for_itself(self):
        one = asked(1, ((X,), [road(X, Y)]))
        self.assertIs(is_paper(one, one, [(0, {X: X, Y: Y})]), True)
        for places in [{}, {X: X}, {Y: Y}, {X: X, Z: Y}, {Z: X, Y: Y}, {X: X, Y: Y, Z: Z}]:
            self.assertIs(is_paper(one, one, [(0, places)]), False, places)

    def test_keys_that_are_equal_to_a_variable_but_are_none(self):
        one = keyed(1, ((Y,), [road(5, Y)]))
        self.assertIs(is_paper(one, one, [(0, {Y: Y})]), True)
        self.assertIs(is_paper(one, one, [(0, {(True,): Y})]), False)
        self.assertIs(is_paper(one, one, [(0, {Y: (True,)})]), False)

    def test_places_at_things_that_are_no_terms(self):
        for thing in [None, True, False, "", "A", (), (True,), (-1,), (10 ** 30,), 10 ** 30, [0], [], {}, (0, 0), ("a",)]:
            self.wrong((1, {(8,): X, Z: thing}), ("void",))

    def test_places_at_other_terms(self):
        for term in [5, 1, "a", Z, (8,), (GREATEST,)]:
            self.wrong((1, {(8,): X, Z: term}), ("void",))
            self.wrong((1, {(8,): term, Z: X}), ("void",))

    def test_a_term_that_stands_nowhere_is_joined_to_itself(self):
        # The variable is asked for nowhere but in an atom that is there as it is.
        one = asked(0, ((), [road(1, 2)]))
        other = asked(0, ((), [road(X, 2)]))
        self.assertIs(is_paper(one, other, [(0, {X: 1})]), True)
        self.assertIs(is_paper(one, other, [(0, {X: 3})]), False)
        self.assertIs(is_paper(one, other, [(0, {X: X})]), False)

    def test_entries_with_another_number_of_things(self):
        places = {(8,): X, Z: X}
        for entry in [(1,), (1, places, 1), (), [1, places], (places, 1), None, 1, "a", places, True]:
            self.wrong(entry, ("void",))

    def test_values_of_the_other_question(self):
        self.wrong((0, {}), ("void",))
        one = keyed(1, ((9,), [road(9, 9)]))
        self.assertIs(is_paper(one, self.other, [(0, {})]), True)
        self.assertIs(is_paper(one, self.other, [(0, {X: 9})]), False)

    def test_the_head(self):
        one = asked(2, ((X, Y), [road(X, Y), road(Y, X)]))
        self.assertIs(is_paper(one, one, [(0, {X: X, Y: Y})]), True)
        self.assertIs(is_paper(one, one, [(0, {X: Y, Y: X})]), False)
        no_head = asked(0, ((), [road(X, Y), road(Y, X)]))
        self.assertIs(is_paper(no_head, no_head, [(0, {X: Y, Y: X})]), True)

    def test_tables(self):
        schema = Schema({"road": 2, "way": 2}, {}, {"roads": ("road", (0,), None)})
        one = Question(schema, 0, [((), [("road", (X, Y))])])
        other = Question(schema, 0, [((), [("way", (X, Y))])])
        self.assertIs(is_paper(one, other, [(0, {X: X, Y: Y})]), False)

    def test_other_things(self):
        good = [(1, {(8,): X, Z: X}), ("void",)]
        for paper in [None, "void", 0, True, (), {}, tuple(good), good[:1], good + good[1:], [], [None, None], [good, good]]:
            self.assertIs(is_paper(self.one, self.other, paper), False, paper)
        self.assertIs(is_paper(self.one, self.other, good), True)

    def test_own_objects(self):
        store = Store(KEYED, {})
        for thing in [store, KEYED, self.one]:
            self.wrong(thing, ("void",))
            self.wrong((1, {(8,): X, Z: thing}), ("void",))
            self.wrong((1, {(8,): X, Z: X}), thing)
            self.assertIs(is_paper(self.one, self.other, thing), False)

    def test_a_question_with_itself(self):
        own = [(0, {X: X, Y: Y}), ("void",)]
        self.assertIs(is_paper(self.one, self.one, own), True)
        self.assertIs(is_paper(self.one, self.one, [(0, {X: Y, Y: X}), ("void",)]), True)

    def test_no_paper_is_right_for_a_question_that_is_not_within(self):
        one, other = asked(1, ((X,), [road(X, Y)])), asked(1, ((X,), [road(X, X)]))
        terms = [X, Y, Z, 0, 1, "a"]
        self.assertFalse(is_within(one, other))
        for term in terms:
            self.assertIs(is_paper(one, other, [(0, {X: term})]), False)

    def test_random_papers(self):
        generator = random.Random(50)
        terms = [X, Y, Z, (7,), 3, "x", (99,), (True,), None, True]
        seen = {True: 0, False: 0}
        for _ in range(150):
            schema = random_schema(generator)
            one = random_question(generator, schema, 1, 2, 3)
            other = one | random_question(generator, schema, 1, 2, 2)
            for _ in range(6):
                paper = paper_of(one, other)
                for at, entry in enumerate(paper):
                    if entry != ("void",) and entry[1] and generator.random() < 0.7:
                        entry[1][generator.choice(list(entry[1]))] = generator.choice(terms)
                    elif generator.random() < 0.2:
                        paper[at] = generator.choice([("void",), (0, {}), (True, {})])
                parts = other.part_list()
                expected = all(is_entry_the_long_way(entry, part, parts, schema)
                               for entry, part in zip(paper, one.part_list()))
                self.assertIs(is_paper(one, other, paper), expected, paper)
                seen[expected] += 1
        self.assertGreater(min(seen.values()), 50)


class LeastTest(unittest.TestCase):
    def checked(self, question):
        """Return the parts of the least question, and check it."""
        found = least(question)
        self.assertIsInstance(found, Question)
        self.assertEqual((found.schema, found.width), (question.schema, question.width))
        self.assertTrue(is_within(found, question))
        self.assertTrue(is_within(question, found))
        parts = found.part_list()
        for at, (head, atoms) in enumerate(parts):
            self.assertFalse(is_void_the_long_way((head, atoms), question.schema))
            rest = parts[:at] + parts[at + 1:]
            self.assertFalse(is_within(found, Question(found.schema, found.width, rest)))
            for gone in range(len(atoms)):
                fewer = (head, atoms[:gone] + atoms[gone + 1:])
                try:
                    more = Question(found.schema, found.width, rest + [fewer])
                except InvalidQuestion as error:
                    self.assertEqual(error.part, "unsafe")
                    continue
                self.assertFalse(is_within(more, found), fewer)
        return parts

    def sizes(self, question):
        return sorted(len(atoms) for _, atoms in self.checked(question))

    def test_what_is_least_already(self):
        self.assertEqual(self.sizes(asked(2, ((X, Y), [road(X, Y)]))), [1])
        self.assertEqual(self.sizes(asked(1)), [])
        self.assertEqual(self.checked(asked(1, ((7,), []), ((8,), []))), [((7,), []), ((8,), [])])
        self.assertEqual(self.sizes(asked(0, ((), [road(X, Y), road(Y, X)]))), [2])

    def test_a_part_that_another_one_holds(self):
        one, two = ((X,), [road(X, Y)]), ((X,), [road(X, Y), road(Y, Z)])
        self.assertEqual(self.sizes(asked(1, one, two)), [1])
        self.assertEqual(self.sizes(asked(1, two, one)), [1])
        self.assertEqual(self.sizes(asked(1, two, two, two)), [2])
        renamed = ((Y,), [road(Z, X), road(Y, Z)])
        self.assertEqual(self.sizes(asked(1, two, renamed)), [2])
        self.assertEqual(self.sizes(asked(0, ((), [road(X, Y)]), ((), []))), [0])

    def test_a_void_part(self):
        void = ((X,), [road(X, 1), road(X, 2)])
        self.assertEqual(self.sizes(keyed(1, void)), [])
        self.assertEqual(self.sizes(keyed(1, void, ((X,), [road(X, 3)]), void)), [1])
        self.assertEqual(self.sizes(asked(1, void)), [2])

    def test_an_atom_twice(self):
        self.assertEqual(self.sizes(asked(1, ((X,), [road(X, Y), road(X, Y)]))), [1])
        self.assertEqual(self.sizes(asked(1, ((X,), [road(X, Y), road(X, Z)]))), [1])
        self.assertEqual(self.sizes(asked(2, ((X, Y), [road(X, Y), road(X, Z)]))), [1])
        self.assertEqual(self.sizes(asked(1, ((1,), [road(X, 1), road(Y, 1), road(Y, Z), road(2, Z)]))), [3])

    def test_an_atom_that_only_a_key_makes_needless(self):
        part = ((X,), [road(5, X), road(5, Y), road(X, 1), road(Y, Z)])
        self.assertEqual(self.sizes(keyed(1, part)), [2])
        self.assertEqual(self.sizes(asked(1, part)), [2])
        part = ((), [road(5, X), road(5, Y), road(X, 1), ("flag", (Y,))])
        self.assertEqual(self.sizes(keyed(0, part)), [3])
        self.assertEqual(self.sizes(asked(0, part)), [4])

    def test_the_only_place_of_a_variable_of_the_head(self):
        part = ((Y,), [road(5, X), road(5, Y)])
        self.assertEqual(self.sizes(keyed(1, part)), [1])
        self.assertEqual(self.sizes(asked(1, part)), [1])
        both = ((X, Y), [road(5, X), road(5, Y)])
        self.checked(keyed(2, both))
        self.assertEqual(self.sizes(asked(2, both)), [2])

    def test_a_variable_that_is_joined_to_a_value(self):
        self.checked(keyed(1, ((X,), [road(5, X), road(5, 7)]), ((7,), [road(5, 7)])))

    def test_great_variables_and_values(self):
        part = (((GREATEST,),), [road((GREATEST,), -GREATEST), road((GREATEST,), (GREATEST - 1,))])
        self.assertEqual(self.sizes(asked(1, part)), [1])

    def test_many_parts(self):
        parts = [((X,), [road(X, at % 1000), road(X, Y)]) for at in range(4000)]
        self.assertEqual([len(atoms) for _, atoms in least(asked(1, *parts)).part_list()], [1] * 1000)

    def test_random_questions(self):
        generator = random.Random(51)
        for _ in range(120):
            schema = random_schema(generator)
            question = random_question(generator, schema, generator.randint(0, 2), 4, 4)
            self.checked(question)
            found = least(question)
            for _ in range(3):
                store = random_store(generator, schema)
                self.assertEqual(answers_the_long_way(found, store), answers_the_long_way(question, store))


class SharingTest(unittest.TestCase):
    """Points 2 and 78."""

    def setUp(self):
        self.one = keyed(1, ((X,), [road(5, X), road(5, Y)]), ((X,), [road(X, 1), road(X, 2)]))
        self.other = keyed(1, ((X,), [road(5, X), road(Y, Z)]))

    def test_the_questions_do_not_change(self):
        before = self.one.part_list(), self.other.part_list()
        paper = paper_of(self.one, self.other)
        for call in [within, is_within, paper_of]:
            call(self.one, self.other)
            call(self.other, self.one)
        is_paper(self.one, self.other, paper)
        least(self.one)
        self.assertEqual((self.one.part_list(), self.other.part_list()), before)

    def test_a_paper_is_not_modified(self):
        paper = [(0, {X: X, Y: 5, Z: X}), ("void",)]
        self.assertIs(is_paper(self.one, self.other, paper), True)
        self.assertEqual(paper, [(0, {X: X, Y: 5, Z: X}), ("void",)])

    def test_changes_to_a_paper(self):
        paper = paper_of(self.one, self.other)
        paper[0][1].clear()
        paper.clear()
        self.assertEqual(len(paper_of(self.one, self.other)), 2)
        self.assertTrue(is_paper(self.one, self.other, paper_of(self.one, self.other)))

    def test_changes_to_what_least_returns(self):
        found = least(self.one)
        found.part_list()[0][1].clear()
        found.part_list().clear()
        self.assertEqual(len(found.part_list()[0][1]), 1)


class InterfaceTest(unittest.TestCase):
    def test_names_and_arguments(self):
        arguments = {"within": ["one", "other"], "is_within": ["one", "other"], "paper_of": ["one", "other"],
                     "is_paper": ["one", "other", "paper"], "least": ["question"]}
        for name, expected in arguments.items():
            function = getattr(within_module, name)
            self.assertEqual(list(inspect.signature(function).parameters), expected)
            self.assertEqual(function.__module__, "cappedcalls.within")


if __name__ == "__main__":
    unittest.main()
