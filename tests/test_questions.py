"""Points 2 and 40 to 45: questions and their answers."""

import inspect
import itertools
import random
import unittest

from cappedcalls.errors import InvalidQuestion, LimitExceeded, SchemaMismatch, WidthMismatch
from cappedcalls.questions import Question, answers_of
from cappedcalls.schemas import Schema
from cappedcalls.stores import Store
from cappedcalls.values import sorted_rows
from makers import answers_the_long_way, random_question, random_schema, random_store

GREATEST = 10 ** 30 - 1
TABLES = {"road": 2, "town": 3, "flag": 1}
NO_VARIABLES = [(-1,), (10 ** 30,), (True,), (False,), ("a",), (None,), ((0,),), ([0],), (), (0, 1), [0], [], [[0]]]
NO_TERMS = [True, False, None, "", "A", "abcdefghi", 10 ** 30, -(10 ** 30), *NO_VARIABLES]
ROAD = ("road", ((0,), (1,)))
RIGHT = (((0,),), [ROAD])


def made():
    return Schema(TABLES, {"town": (0,)}, {"out": ("road", (0,), 1), "all": ("town", (), None)})


def stored(**rows):
    return Store(made(), rows)


def asked(width, *parts):
    return Question(made(), width, list(parts))


class QuestionCase(unittest.TestCase):
    def refused(self, width, parts, part, at):
        with self.assertRaises(InvalidQuestion) as caught:
            Question(made(), width, parts)
        self.assertEqual((caught.exception.part, caught.exception.at), (part, at), repr(parts)[:300])

    def wrong(self, part, word, width=1):
        """Check that a part is refused, alone and behind right ones, before a wrong one."""
        self.refused(width, [part], word, 0)
        right = (("a",) * width, [])
        self.refused(width, [right, right, part, None], word, 2)

    def too_many(self, call, limit):
        with self.assertRaises(LimitExceeded) as caught:
            call()
        self.assertEqual(caught.exception.limit, limit)


class ExamplesTest(QuestionCase):
    def test_first_example(self):
        schema = Schema({"road": 2}, {}, {"roads": ("road", (0,), None)})
        two = Question(schema, 2, [(((0,), (2,)), [("road", ((0,), (1,))), ("road", ((1,), (2,)))])])
        self.assertEqual(answers_of(two, Store(schema, {"road": [(1, 2), (2, "a"), (2, 3)]})), [(1, 3), (1, "a")])

    def test_second_example(self):
        schema = Schema({"road": 2}, {}, {"roads": ("road", (0,), None)})
        with self.assertRaises(InvalidQuestion) as caught:
            Question(schema, 1, [(((3,),), [("road", ((0,), 7))])])
        self.assertEqual((caught.exception.part, caught.exception.at), ("unsafe", 0))


class WidthTest(QuestionCase):
    def test_every_width(self):
        for width in range(-2, 16):
            if 0 <= width <= 12:
                question = Question(made(), width, [(((0,),) * width, [ROAD])])
                self.assertEqual(question.width, width)
            else:
                self.refused(width, [], "width", -1)

    def test_other_kinds(self):
        for width in [True, False, None, "1", "a", (), (1,), [], [1]]:
            self.refused(width, [], "width", -1)

    def test_it_comes_before_the_parts(self):
        self.refused(True, None, "width", -1)
        self.refused(13, [None], "width", -1)


class PartsTest(QuestionCase):
    def test_things_that_are_no_list(self):
        for parts in [None, True, 0, "", "a", (), (RIGHT,)]:
            self.refused(1, parts, "parts", -1)

    def test_how_many(self):
        self.assertEqual(Question(made(), 1, []).part_list(), [])
        self.assertEqual(len(Question(made(), 1, [RIGHT] * 4000).part_list()), 4000)
        self.refused(1, [RIGHT] * 4001, "parts", -1)
        self.refused(1, [None] * 4001, "parts", -1)
        self.refused(1, [RIGHT] * 3999 + [None], "form", 3999)


class FormTest(QuestionCase):
    def test_things_that_are_no_part(self):
        head, atoms = RIGHT
        for part in [None, True, 0, "", "ab", (), (head,), (head, atoms, atoms), [head, atoms], head]:
            self.wrong(part, "form")

    def test_heads_that_are_no_tuple(self):
        for head in [None, 0, True, "", "a", [], [(0,)], ["a"]]:
            self.wrong((head, [ROAD]), "form")

    def test_atoms_that_are_no_list(self):
        for atoms in [None, 0, True, "", "a", (), (ROAD,), ROAD]:
            self.wrong((("a",), atoms), "form")

    def test_5_and_6_atoms(self):
        for many in range(9):
            part = (("a",), [ROAD] * many)
            if many <= 5:
                self.assertEqual(Question(made(), 1, [part]).part_list(), [part])
            else:
                self.wrong(part, "form")
        self.wrong((("a",), [None] * 6), "form")

    def test_things_that_are_no_atom(self):
        terms = ((0,), (1,))
        for atom in [None, 0, True, "", "ab", (), ("road",), ("road", terms, terms), ["road", terms],
                     ("road", list(terms)), ("road", None), ("road", "ab"), ("road", 1), terms[0], ("road", "a", "b")]:
            self.wrong((("a",), [atom]), "form")
            self.wrong((("a",), [ROAD, ROAD, atom]), "form")
            self.wrong((("a",), [atom, ("zz", ())]), "form")


class HeadTest(QuestionCase):
    def test_another_number_of_terms(self):
        for width in range(5):
            for many in range(5):
                part = (("a",) * many, [ROAD])
                if many == width:
                    Question(made(), width, [part])
                else:
                    self.refused(width, [part], "head", 0)

    def test_things_that_are_no_terms(self):
        for thing in NO_TERMS:
            self.wrong(((thing,), [ROAD]), "head")
            self.wrong((("a", (0,), thing), [ROAD]), "head", 3)

    def test_terms(self):
        for term in [0, -1, GREATEST, -GREATEST, "a", "abcdefgh", (0,), (1,)]:
            self.assertEqual(asked(1, ((term,), [ROAD])).part_list(), [((term,), [ROAD])])


class TableTest(QuestionCase):
    def test_things_that_are_no_tables(self):
        for name in ["roads", "", "out", "Road", None, 0, True, (), ("road",), [], ["road"]]:
            self.wrong((("a",), [(name, (1, 2))]), "table")
            self.wrong((("a",), [ROAD, (name, ())]), "table")


class TermsTest(QuestionCase):
    def test_another_number_of_terms(self):
        for table, width in TABLES.items():
            for many in range(6):
                part = (("a",), [ROAD, (table, (1,) * many)])
                if many == width:
                    self.assertEqual(asked(1, part).part_list(), [part])
                else:
                    self.wrong(part, "terms")

    def test_things_that_are_no_terms(self):
        for thing in NO_TERMS:
            self.wrong((("a",), [("road", (1, thing))]), "terms")
            self.wrong((("a",), [ROAD, ("flag", (thing,))]), "terms")

    def test_the_greatest_and_the_least_variable(self):
        for number in [0, 1, GREATEST - 1, GREATEST]:
            part = (((number,),), [("flag", ((number,),))])
            question = asked(1, part)
            self.assertEqual(question.part_list(), [part])
            self.assertEqual(answers_of(question, stored(flag=[(5,)])), [(5,)])
        for thing in NO_VARIABLES:
            self.wrong((("a",), [("flag", (thing,))]), "terms")


class UnsafeTest(QuestionCase):
    def test_variables_of_the_head(self):
        self.wrong((((2,),), [ROAD]), "unsafe")
        self.wrong((((0,), (1,), (2,)), [ROAD, ROAD]), "unsafe", 3)
        self.wrong((((0,),), []), "unsafe")
        for at in range(2):
            asked(1, (((at,),), [("flag", ((7,),)), ROAD]))

    def test_variables_of_another_part(self):
        self.refused(1, [RIGHT, (((0,),), [("flag", ((1,),))])], "unsafe", 1)
        self.refused(1, [(((0,),), []), RIGHT], "unsafe", 0)

    def test_a_part_without_atoms(self):
        self.assertEqual(asked(2, (("a", 1), [])).part_list(), [(("a", 1), [])])
        self.assertEqual(asked(0, ((), [])).part_list(), [((), [])])


class OrderTest(QuestionCase):
    wrong_parts = [
        ("form", (("a", 1), [("zz", ()), None])), ("form", [(2,), []]), ("form", (((9,), 1), (ROAD,))),
        ("head", (("a", 1), [("zz", ())])), ("head", ((None,), [("road", ())])), ("head", (((9,), (8,)), [])),
        ("table", (((9,),), [("road", (None,)), ("zz", ())])), ("table", (((9,),), [("road", ()), (None, ())])),
        ("terms", (((9,),), [ROAD, ("road", ((9,),))])), ("terms", (((9,),), [("flag", ([9],))])),
        ("unsafe", (((9,),), [ROAD])),
    ]

    def test_two_wrong_things_in_one_part(self):
        for word, part in self.wrong_parts:
            self.wrong(part, word)

    def test_two_wrong_parts(self):
        for (word, one), (_, other) in itertools.permutations(self.wrong_parts, 2):
            self.refused(1, [one, other], word, 0)
            self.refused(1, [RIGHT, one, RIGHT, other], word, 1)


class PartListTest(QuestionCase):
    def test_parts_in_their_order(self):
        parts = [RIGHT, (("b",), []), RIGHT, (((7,),), [("flag", ((7,),)), ROAD, ("flag", ((7,),))]), (("a",), [])]
        self.assertEqual(Question(made(), 1, parts).part_list(), parts)
        for head, atoms in Question(made(), 1, parts).part_list():
            self.assertEqual((type(head), type(atoms)), (tuple, list))

    def test_attributes(self):
        schema = made()
        question = Question(schema, 1, [RIGHT])
        self.assertIs(question.schema, schema)
        self.assertEqual(question.width, 1)

    def test_later_changes_to_the_arguments(self):
        atoms = [ROAD]
        parts = [(((0,),), atoms)]
        question = Question(made(), 1, parts)
        self.assertEqual(parts, [RIGHT])
        atoms.append(("flag", (1,)))
        parts.append((("a",), []))
        self.assertEqual(question.part_list(), [RIGHT])
        self.assertEqual(answers_of(question, stored(road=[(1, 2)])), [(1,)])

    def test_changes_to_what_is_returned(self):
        question = asked(1, RIGHT, RIGHT)
        found = question.part_list()
        found[0][1].clear()
        self.assertEqual(found[1], RIGHT)
        found.clear()
        self.assertEqual(question.part_list(), [RIGHT, RIGHT])
        self.assertEqual(answers_of(question, stored(road=[(1, 2)])), [(1,)])

    def test_refused_parts_are_not_modified(self):
        parts = [RIGHT, (((9,),), [ROAD])]
        self.refused(1, parts, "unsafe", 1)
        self.assertEqual(parts, [RIGHT, (((9,),), [ROAD])])


class AnswersTest(QuestionCase):
    def test_one_atom(self):
        store = stored(road=[(2, "a"), (1, 2), (2, 1), (3, 3)])
        for part, expected in [
                ((((0,),), [ROAD]), [(1,), (2,), (3,)]), ((((1,),), [ROAD]), [(1,), (2,), (3,), ("a",)]),
                ((((0,),), [("road", ((0,), 2))]), [(1,)]), ((((0,),), [("road", (2, (0,)))]), [(1,), ("a",)]),
                ((((0,),), [("road", ((0,), (0,)))]), [(3,)]), ((("x",), [("road", (1, 2))]), [("x",)]),
                ((("x",), [("road", (2, 2))]), []), ((((5,),), [("road", (7, (5,)))]), [])]:
            self.assertEqual(answers_of(asked(1, part), store), expected)

    def test_the_head(self):
        store = stored(road=[(1, 2), (3, 4)])
        part = (((1,), "k", (0,), (1,)), [ROAD])
        self.assertEqual(answers_of(asked(4, part), store), [(2, "k", 1, 2), (4, "k", 3, 4)])
        self.assertEqual(answers_of(asked(0, ((), [ROAD])), store), [()])
        self.assertEqual(answers_of(asked(0, ((), [ROAD])), stored()), [])

    def test_a_part_without_atoms(self):
        for store in [stored(), stored(road=[(1, 2)])]:
            self.assertEqual(answers_of(asked(2, (("b", 1), [])), store), [("b", 1)])
            self.assertEqual(answers_of(asked(0, ((), [])), store), [()])
            self.assertEqual(answers_of(asked(0), store), [])

    def test_all_answers_of_all_parts(self):
        store = stored(road=[(1, 2), (2, 1)], flag=[(2,), ("a",)])
        parts = [(("b",), []), (((1,),), [ROAD]), (((5,),), [("flag", ((5,),))]), (((0,),), [ROAD])]
        self.assertEqual(answers_of(asked(1, *parts), store), [(1,), (2,), ("a",), ("b",)])

    def test_the_same_variable_number_in_two_parts(self):
        store = stored(road=[(1, 2)], flag=[(3,)])
        parts = [(((0,),), [("road", ((0,), (1,)))]), (((0,),), [("flag", ((0,),))])]
        self.assertEqual(answers_of(asked(1, *parts), store), [(1,), (3,)])

    def test_atoms_that_meet_late(self):
        road = [(1, 2), (2, 3), (3, 4), (4, 1), (2, 2)]
        atoms = [("road", ((0,), (1,))), ("road", ((2,), (3,))), ("flag", ((4,),)), ("road", ((1,), (2,))),
                 ("road", ((3,), (0,)))]
        question = asked(4, (((0,), (1,), (2,), (3,)), atoms))
        self.assertEqual(answers_of(question, stored(road=road)), [])
        expected = [(1, 2, 3, 4), (2, 2, 2, 2), (2, 3, 4, 1), (3, 4, 1, 2), (4, 1, 2, 3)]
        self.assertEqual(answers_of(question, stored(road=road, flag=[(7,), (8,)])), expected)

    def test_rows_of_other_tables_are_not_taken(self):
        self.assertEqual(answers_of(asked(1, (((0,),), [("flag", ((0,),))])), stored(road=[(1, 2)])), [])

    def test_many_rows(self):
        road = [(number, other) for number in range(20) for other in range(20)]
        atoms = [("road", ((at,), (at + 1,))) for at in range(5)]
        self.assertEqual(answers_of(asked(2, (((0,), (5,)), atoms)), stored(road=road)), road)
        apart = [("road", ((2 * at,), (2 * at + 1,))) for at in range(5)]
        self.assertEqual(answers_of(asked(0, ((), apart)), stored(road=road)), [()])

    def test_the_long_way(self):
        for seed in range(400):
            generator = random.Random(seed)
            schema = random_schema(generator)
            store = random_store(generator, schema, 5)
            question = random_question(generator, schema, generator.randint(0, 3), 3, 4)
            expected = sorted_rows(list(answers_the_long_way(question, store)))
            self.assertEqual(answers_of(question, store), expected)

    def test_schemas(self):
        with self.assertRaises(SchemaMismatch):
            answers_of(asked(1, RIGHT), Store(made().uncapped(["out"]), {}))
        self.assertEqual(answers_of(asked(1, RIGHT), Store(made(), {})), [])

    def test_neither_argument_changes(self):
        question = asked(1, RIGHT)
        store = stored(road=[(1, 2)])
        answers_of(question, store).clear()
        self.assertEqual(answers_of(question, store), [(1,)])
        self.assertEqual(question.part_list(), [RIGHT])
        self.assertEqual(store, stored(road=[(1, 2)]))


class OrTest(QuestionCase):
    def test_parts_of_both(self):
        one = asked(1, RIGHT, (("b",), []))
        other = asked(1, (("a",), []), RIGHT)
        self.assertEqual((one | other).part_list(), one.part_list() + other.part_list())
        self.assertEqual((other | one).part_list(), other.part_list() + one.part_list())
        self.assertEqual((one | other).width, 1)
        self.assertEqual((one | other).schema, made())
        self.assertEqual((one | asked(1)).part_list(), one.part_list())
        self.assertIs(type(one | other), Question)

    def test_one_question_twice(self):
        one = asked(1, RIGHT)
        self.assertEqual((one | one).part_list(), [RIGHT, RIGHT])

    def test_4000_and_4001_parts(self):
        one = Question(made(), 1, [RIGHT] * 2000)
        self.assertEqual(len((one | one).part_list()), 4000)
        with self.assertRaises(InvalidQuestion) as caught:
            one | Question(made(), 1, [RIGHT] * 2001)
        self.assertEqual((caught.exception.part, caught.exception.at), ("parts", -1))

    def test_order_of_the_errors(self):
        one = Question(made(), 1, [RIGHT] * 4000)
        schema = made().uncapped(["out"])
        with self.assertRaises(SchemaMismatch):
            one | Question(schema, 2, [(("a", "b"), [])])
        with self.assertRaises(SchemaMismatch):
            one | Question(schema, 1, [RIGHT])
        with self.assertRaises(WidthMismatch):
            one | Question(made(), 2, [(("a", "b"), [])])
        with self.assertRaises(InvalidQuestion):
            one | one

    def test_neither_question_changes(self):
        one, other = asked(1, RIGHT), asked(1, (("a",), []))
        found = one | other
        found.part_list()[0][1].clear()
        found.part_list().clear()
        self.assertEqual([one.part_list(), other.part_list()], [[RIGHT], [(("a",), [])]])
        self.assertEqual(len(found.part_list()), 2)


class AndTest(QuestionCase):
    def check(self, one, other, store):
        expected = [row for row in answers_of(one, store) if row in answers_of(other, store)]
        self.assertEqual(answers_of(one & other, store), expected)

    def test_answers_of_both(self):
        starts = asked(1, (((0,),), [ROAD]))
        ends = asked(1, (((1,),), [ROAD]))
        flags = asked(1, (((0,),), [("flag", ((0,),))]))
        word = asked(1, (("a",), []), ((3,), []))
        store = stored(road=[(1, 2), (2, 3), (3, "a")], flag=[("a",), (1,)])
        for one, other in itertools.product([starts, ends, flags, word, asked(1)], repeat=2):
            self.check(one, other, store)
            self.check(one, other, stored())
        self.assertEqual(answers_of(starts & ends, store), [(2,), (3,)])

    def test_the_same_variable_number_in_both(self):
        one = asked(1, (((0,),), [("road", ((0,), (1,)))]))
        other = asked(1, (((1,),), [("road", ((0,), (1,)))]))
        self.assertEqual(answers_of(one & other, stored(road=[(1, 2), (2, 3)])), [(2,)])

    def test_variables_inside_a_head(self):
        twice = asked(2, (((0,), (0,)), [("flag", ((0,),))]))
        roads = asked(2, (((0,), (1,)), [ROAD]))
        fixed = asked(2, ((1, (0,)), [("flag", ((0,),))]), (((5,), "a"), [("flag", ((5,),))]))
        store = stored(road=[(1, 1), (1, 2), (2, 2), (1, "a"), ("a", "a")], flag=[(1,), (2,), ("a",)])
        for one, other in itertools.product([twice, roads, fixed], repeat=2):
            self.check(one, other, store)
        self.assertEqual(answers_of(twice & roads, store), [(1, 1), (2, 2), ("a", "a")])

    def test_one_question_twice(self):
        one = asked(1, RIGHT)
        self.check(one, one, stored(road=[(1, 2), (3, 4)]))
        self.assertEqual((one & one).width, 1)
        self.assertEqual((one & one).schema, made())

    def test_great_variables(self):
        one = asked(1, (((GREATEST,),), [("road", ((GREATEST,), (GREATEST - 1,)))]))
        self.check(one, one, stored(road=[(1, 2), (3, 4)]))

    def test_width_0(self):
        yes, no = asked(0, ((), [])), asked(0)
        road = asked(0, ((), [ROAD]))
        for one, other in itertools.product([yes, no, road], repeat=2):
            self.check(one, other, stored())
            self.check(one, other, stored(road=[(1, 2)]))

    def test_the_long_way(self):
        for seed in range(300):
            generator = random.Random(seed)
            schema = random_schema(generator)
            width = generator.randint(0, 3)
            one = random_question(generator, schema, width, 3, 2)
            other = random_question(generator, schema, width, 3, 2)
            for _ in range(3):
                store = random_store(generator, schema, 5)
                self.check(one, other, store)
                both = answers_the_long_way(one, store) | answers_the_long_way(other, store)
                self.assertEqual(answers_of(one | other, store), sorted_rows(list(both)))

    def test_4000_pairs_and_more(self):
        values = [((number,), []) for number in range(4001)]
        for one, other in [(4000, 1), (1, 4000), (63, 63), (2, 2000), (4000, 0), (0, 4000)]:
            found = Question(made(), 1, values[:one]) & Question(made(), 1, values[:other])
            self.assertEqual(len(answers_of(found, stored())), min(one, other))
        for one, other in [(4000, 2), (2, 2001), (64, 63), (4000, 4000)]:
            self.too_many(lambda: Question(made(), 1, values[:one]) & Question(made(), 1, values[:other]), 4000)

    def test_5_atoms_together_and_6(self):
        def parts(*sizes):
            return Question(made(), 1, [(("a",), [ROAD] * size) for size in sizes])
        for one, other in itertools.product(range(6), repeat=2):
            if one + other <= 5:
                self.check(parts(one), parts(other), stored(road=[(1, 2)]))
            else:
                self.too_many(lambda: parts(one) & parts(other), 5)
        self.too_many(lambda: parts(0, 3, 1) & parts(1, 3, 0), 5)
        self.too_many(lambda: parts(0, 4) & parts(2, 0), 5)
        self.check(parts(5), parts(), stored())
        self.check(parts(), parts(5), stored())

    def test_counts_are_made_of_the_parts_as_they_are(self):
        one = Question(made(), 1, [(("a",), [ROAD] * 3)])
        other = Question(made(), 1, [(("b",), [ROAD] * 3)])
        self.too_many(lambda: one & other, 5)
        many = Question(made(), 1, [(("a",), [])] * 64)
        self.too_many(lambda: many & Question(made(), 1, [(("b",), [])] * 64), 4000)

    def test_order_of_the_errors(self):
        three = [ROAD] * 3
        one = Question(made(), 1, [(("a",), three)] * 64)
        schema = made().uncapped(["out"])
        with self.assertRaises(SchemaMismatch):
            one & Question(schema, 2, [(("a", "b"), three)] * 64)
        with self.assertRaises(SchemaMismatch):
            one & Question(schema, 1, [(("a",), three)] * 64)
        with self.assertRaises(WidthMismatch):
            one & Question(made(), 2, [(("a", "b"), three)] * 64)
        self.too_many(lambda: one & one, 4000)
        self.too_many(lambda: one & Question(made(), 1, [(("a",), three)]), 5)

    def test_neither_question_changes(self):
        one, other = asked(1, RIGHT), asked(1, (("a",), []), RIGHT)
        found = one & other
        expected = found.part_list()
        found.part_list().clear()
        for _, atoms in found.part_list():
            atoms.clear()
        self.assertEqual(found.part_list(), expected)
        self.assertEqual([one.part_list(), other.part_list()], [[RIGHT], [(("a",), []), RIGHT]])


class InterfaceTest(unittest.TestCase):
    def test_names_and_arguments(self):
        self.assertEqual(list(inspect.signature(Question).parameters), ["schema", "width", "parts"])
        for name in ["part_list", "__or__", "__and__"]:
            self.assertIn(name, vars(Question))
        self.assertEqual(list(inspect.signature(answers_of).parameters), ["question", "store"])
        self.assertEqual({Question.__module__, answers_of.__module__}, {"cappedcalls.questions"})


if __name__ == "__main__":
    unittest.main()
