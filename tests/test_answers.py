"""Points 2 and 13 to 15: the answers of a call, and the answers that are picked for all calls."""

import inspect
import itertools
import random
import unittest

from cappedcalls.answers import Answers, each_answer
from cappedcalls.errors import InvalidCall, InvalidChoice, UnknownName
from cappedcalls.schemas import Schema
from cappedcalls.stores import Store
from makers import calls_that_fit, random_choices, random_schema, random_store

TABLES = {"road": 2, "town": 2, "flag": 1}
KEYS = {"town": (0,)}
ROWS = {"road": [(1, "a"), (1, 4), (1, 3), (1, 2), (2, 2), (2, 1), ("b", 7)], "town": [(1, 2), (2, 2)],
        "flag": [(number,) for number in (5, 1, "a", 3)]}


def made(cap=2, rows=None):
    services = {"out": ("road", (0,), cap), "all": ("road", (), None), "exact": ("road", (0, 1), 1),
                "named": ("town", (0,), 1), "flags": ("flag", (), cap), "towns": ("town", (), 1)}
    return Store(Schema(TABLES, KEYS, services), ROWS if rows is None else rows)


def every(store, service, given):
    return list(each_answer(store, service, given))


class ExamplesTest(unittest.TestCase):
    def setUp(self):
        self.schema = Schema({"road": 2}, {}, {"out": ("road", (0,), 2)})
        self.store = Store(self.schema, {"road": [(1, 2), (1, 3), (1, 4)]})

    def test_first_example(self):
        answers = Answers(self.store, {("out", (1,)): [(1, 4), (1, 3)]})
        found = [answers("out", (1,)), answers("out", (5,)), Answers(self.store)("out", (1,)),
                 list(each_answer(self.store, "out", (1,)))]
        self.assertEqual(found, [[(1, 3), (1, 4)], [], [(1, 2), (1, 3)],
                                 [[(1, 2), (1, 3)], [(1, 2), (1, 4)], [(1, 3), (1, 4)]]])

    def test_second_example(self):
        with self.assertRaises(InvalidChoice) as caught:
            Answers(self.store, {("out", (1,)): [(1, 4)]})
        self.assertEqual((caught.exception.service, caught.exception.given), ("out", (1,)))


class EachAnswerTest(unittest.TestCase):
    def test_every_number_of_rows_and_every_cap(self):
        for many, cap in itertools.product(range(8), [None, 1, 2, 3, 4]):
            rows = [(number,) for number in range(many)]
            store = made(cap, {"flag": rows[::-1]})
            size = many if cap is None else min(cap, many)
            expected = [list(answer) for answer in itertools.combinations(rows, size)]
            self.assertEqual(every(store, "flags", ()), expected)

    def test_no_row(self):
        for cap in [None, 1, 4]:
            self.assertEqual(every(made(cap), "out", (9,)), [[]])
        self.assertEqual(every(made(rows={}), "all", ()), [[]])

    def test_the_order_of_the_lists(self):
        rows = [(1, 2), (1, 3), (1, 4), (1, "a")]
        self.assertEqual(every(made(1), "out", (1,)), [[row] for row in rows])
        self.assertEqual(every(made(3), "out", (1,)), [[rows[0], rows[1], rows[2]], [rows[0], rows[1], rows[3]],
                                                       [rows[0], rows[2], rows[3]], [rows[1], rows[2], rows[3]]])
        self.assertEqual(every(made(4), "out", (1,)), [rows])

    def test_whole_services_have_one_answer(self):
        store = made(1)
        self.assertEqual(every(store, "all", ()), [store["road"]])
        self.assertEqual(every(store, "exact", (1, 3)), [[(1, 3)]])
        self.assertEqual(every(store, "exact", (3, 1)), [[]])
        self.assertEqual(every(store, "named", (2,)), [[(2, 2)]])

    def test_a_table_with_a_key(self):
        self.assertEqual(every(made(), "towns", ()), [[(1, 2)], [(2, 2)]])

    def test_calls_of_random_stores(self):
        for seed in range(80):
            generator = random.Random(seed)
            store = random_store(generator, random_schema(generator), 7)
            for service, given in calls_that_fit(store):
                rows = store.fitting(service, given)
                cap = store.schema.service_of(service)[2]
                size = len(rows) if cap is None else min(cap, len(rows))
                expected = [list(answer) for answer in itertools.combinations(rows, size)]
                self.assertEqual(every(store, service, given), expected)

    def test_it_is_a_generator(self):
        self.assertTrue(inspect.isgeneratorfunction(each_answer))
        many = [(number, other) for number in range(20) for other in range(20)]
        store = Store(Schema({"road": 2}, {}, {"some": ("road", (), 4)}), {"road": many})
        self.assertEqual(next(each_answer(store, "some", ())), [(0, 0), (0, 1), (0, 2), (0, 3)])

    def test_errors_when_it_is_iterated_over(self):
        store = made()
        for service, given, error in [("zz", (), UnknownName), ("zz", (1,), UnknownName), ("out", (), InvalidCall),
                                      ("out", (True,), InvalidCall), ("out", (1, 2), InvalidCall)]:
            answers = each_answer(store, service, given)
            with self.assertRaises(error):
                next(answers)

    def test_changes_to_the_lists(self):
        store = made()
        found = []
        for answer in each_answer(store, "out", (1,)):
            found.append(list(answer))
            answer.clear()
        self.assertEqual(found, every(store, "out", (1,)))
        self.assertEqual(store, made())


class PickedTest(unittest.TestCase):
    def test_first_rows(self):
        for cap in [1, 2, 3, 4, None]:
            answers = Answers(made(cap))
            self.assertEqual(answers("out", (1,)), [(1, 2), (1, 3), (1, 4), (1, "a")][:cap])
            self.assertEqual(answers("out", (2,)), [(2, 1), (2, 2)][:cap])
            self.assertEqual(answers("out", ("b",)), [("b", 7)])
            self.assertEqual(answers("out", (9,)), [])
            self.assertEqual(answers("flags", ()), [(1,), (3,), (5,), ("a",)][:cap])

    def test_whole_services(self):
        answers = Answers(made(1))
        self.assertEqual(answers("all", ()), made()["road"])
        self.assertEqual(answers("exact", (1, "a")), [(1, "a")])
        self.assertEqual(answers("named", (1,)), [(1, 2)])
        self.assertEqual(answers("towns", ()), [(1, 2)])

    def test_chosen_answers(self):
        choices = {("out", (1,)): [(1, "a"), (1, 3)], ("flags", ()): [("a",), (1,)]}
        answers = Answers(made(), choices)
        self.assertEqual(answers("out", (1,)), [(1, 3), (1, "a")])
        self.assertEqual(answers("flags", ()), [(1,), ("a",)])
        self.assertEqual(answers("out", (2,)), [(2, 1), (2, 2)])

    def test_the_same_call_has_the_same_answer(self):
        answers = Answers(made(), {("out", (1,)): [(1, "a"), (1, 3)]})
        for _ in range(3):
            self.assertEqual(answers("out", (1,)), [(1, 3), (1, "a")])
            self.assertEqual(answers("flags", ()), [(1,), (3,)])

    def test_no_choices(self):
        for answers in [Answers(made()), Answers(made(), None), Answers(made(), {}), Answers(made(), choices={})]:
            self.assertEqual(answers.choices, {})
            self.assertEqual(answers("out", (1,)), [(1, 2), (1, 3)])

    def test_attributes(self):
        store = made()
        answers = Answers(store)
        self.assertIs(answers.store, store)
        self.assertEqual(answers.schema, store.schema)

    def test_choices_are_sorted_lists(self):
        choices = {("out", (1,)): [(1, "a"), (1, 3)], ("all", ()): made()["road"][::-1], ("out", (9,)): []}
        expected = {("out", (1,)): [(1, 3), (1, "a")], ("all", ()): made()["road"], ("out", (9,)): []}
        self.assertEqual(Answers(made(), choices).choices, expected)

    def test_errors_of_calls(self):
        answers = Answers(made(), {("out", (1,)): [(1, "a"), (1, 3)]})
        for name in ["zz", "road", ""]:
            with self.assertRaises(UnknownName) as caught:
                answers(name, ())
            self.assertEqual(caught.exception.name, name)
        for given in [(), (1, 2), (True,), (None,), ([],), ((1,),), ("A",), (10 ** 30,)]:
            with self.assertRaises(InvalidCall) as caught:
                answers("out", given)
            self.assertEqual(caught.exception.service, "out")

    def test_every_answer_can_be_chosen(self):
        for cap in [None, 1, 2, 3, 4]:
            store = made(cap)
            for answer in each_answer(store, "out", (1,)):
                for turned in itertools.permutations(answer):
                    answers = Answers(store, {("out", (1,)): list(turned)})
                    self.assertEqual(answers("out", (1,)), answer)

    def test_random_choices(self):
        for seed in range(60):
            generator = random.Random(seed)
            store = random_store(generator, random_schema(generator), 6)
            choices = random_choices(generator, store)
            answers = Answers(store, choices)
            self.assertEqual(answers.choices, choices)
            for call in choices:
                self.assertEqual(answers(*call), choices[call])


class InvalidChoicesTest(unittest.TestCase):
    def refused(self, choices, service, given, store=None):
        with self.assertRaises(InvalidChoice) as caught:
            Answers(store or made(), choices)
        self.assertEqual((caught.exception.service, caught.exception.given), (service, given))

    def test_rows(self):
        right = [(1, 2), (1, 4)]
        Answers(made(), {("out", (1,)): right})
        for rows in [[], [(1, 2)], [(1, 2), (1, 3), (1, 4)], [(1, 2), (1, 2)], [(1, 2), (2, 2)], [(1, 2), (1, 9)],
                     [(1, 2), (1,)], [(1, 2), ()], [(1, 2), (1, 2, 3)], [(1, 2), (1, 4), (1, 4)],
                     [(1, 2), (1, 10 ** 30)], [(1, 2), (1, "A")]]:
            self.refused({("out", (1,)): rows}, "out", (1,))

    def test_fewer_rows_than_the_cap(self):
        Answers(made(3), {("out", (2,)): [(2, 2), (2, 1)]})
        for rows in [[], [(2, 1)], [(2, 1), (2, 1)], [(2, 1), (2, 2), (2, 2)], [(2, 1), (2, 2), (1, 2)]]:
            self.refused({("out", (2,)): rows}, "out", (2,), made(3))
        self.refused({("out", (9,)): [(1, 2)]}, "out", (9,))

    def test_whole_services(self):
        rows = made()["road"]
        Answers(made(), {("all", ()): rows, ("exact", (1, 2)): [(1, 2)], ("named", (1,)): [(1, 2)]})
        for wrong in [rows[1:], rows + [(7, 7)], rows + rows[:1], []]:
            self.refused({("all", ()): wrong}, "all", ())
        self.refused({("exact", (1, 2)): []}, "exact", (1, 2))
        self.refused({("exact", (7, 7)): [(7, 7)]}, "exact", (7, 7))
        self.refused({("named", (1,)): []}, "named", (1,))

    def test_a_tuple_in_the_place_of_a_list(self):
        self.refused({("out", (1,)): ((1, 2), (1, 4))}, "out", (1,))
        self.refused({("out", (9,)): ()}, "out", (9,))
        self.refused({("all", ()): tuple(made()["road"])}, "all", ())

    def test_unknown_services(self):
        for name in ["zz", "road", "", "Out"]:
            self.refused({(name, ()): []}, name, ())
            self.refused({(name, (1,)): [(1, 2)]}, name, (1,))

    def test_values(self):
        for given in [(), (1, 2), (10 ** 30,), ("A",), ("",), ("abcdefghi",)]:
            self.refused({("out", given): []}, "out", given)
        self.refused({("all", (1,)): [(1, 2), (1, 4)]}, "all", (1,))

    def test_the_first_wrong_call(self):
        wrong = [("all", ()), ("exact", (-1, "a")), ("exact", (2, 1)), ("exact", (10, 1)), ("exact", ("a", 1)),
                 ("exact", ("a", "a")), ("out", (-5,)), ("out", (2,)), ("out", (2, 0)), ("out", (10,)),
                 ("out", ("a",)), ("out", ("b",)), ("zz", ())]
        nothing = [(0, 0)]
        for first, second in itertools.combinations(wrong, 2):
            for pair in [(first, second), (second, first)]:
                choices = {call: nothing for call in pair}
                self.refused(choices, *first)
        self.refused({call: nothing for call in wrong[::-1]}, *wrong[0])

    def test_right_calls_hide_nothing(self):
        choices = {("all", ()): made()["road"], ("out", (1,)): [(1, 2), (1, 3)], ("out", (2,)): []}
        self.refused(choices, "out", (2,))


class ChangedByTheCallerTest(unittest.TestCase):
    def setUp(self):
        self.choices = {("out", (2,)): [(2, 2), (2, 1)], ("out", (1,)): [(1, "a"), (1, 3)]}

    def test_arguments_are_not_modified(self):
        store = made()
        Answers(store, self.choices)
        self.assertEqual(self.choices, {("out", (2,)): [(2, 2), (2, 1)], ("out", (1,)): [(1, "a"), (1, 3)]})
        self.assertEqual(list(self.choices), [("out", (2,)), ("out", (1,))])
        self.assertEqual(store, made())

    def test_later_changes_to_the_arguments(self):
        answers = Answers(made(), self.choices)
        expected = answers.choices
        self.choices[("out", (1,))].reverse()
        self.choices[("out", (1,))].append((1, 4))
        self.choices[("flags", ())] = [(1,), ("a",)]
        self.assertEqual(answers("out", (1,)), [(1, 3), (1, "a")])
        self.assertEqual(answers("flags", ()), [(1,), (3,)])
        self.assertEqual(answers.choices, expected)

    def test_changes_to_what_is_returned(self):
        answers = Answers(made(), self.choices)
        for call in [("out", (1,)), ("out", (2,)), ("flags", ()), ("all", ()), ("out", (9,))]:
            expected = answers(*call)
            answers(*call).clear()
            answers(*call).append((7, 7))
            self.assertEqual(answers(*call), expected)
        found = answers.choices
        found[("out", (1,))].clear()
        found.clear()
        self.assertEqual(answers.choices, {("out", (1,)): [(1, 3), (1, "a")], ("out", (2,)): [(2, 1), (2, 2)]})
        self.assertEqual(answers("out", (1,)), [(1, 3), (1, "a")])
        self.assertEqual(answers.store, made())

    def test_the_order_of_the_keys_has_no_effect(self):
        one = Answers(made(), self.choices)
        other = Answers(made(), dict(reversed(self.choices.items())))
        self.assertEqual(list(one.choices.items()), list(other.choices.items()))

    def test_an_error_changes_nothing(self):
        answers = Answers(made(), self.choices)
        with self.assertRaises(InvalidCall):
            answers("out", ())
        with self.assertRaises(UnknownName):
            answers("zz", ())
        with self.assertRaises(InvalidChoice):
            Answers(answers.store, {("out", (1,)): []})
        self.assertEqual(answers("out", (1,)), [(1, 3), (1, "a")])


class InterfaceTest(unittest.TestCase):
    def test_names_and_arguments(self):
        self.assertEqual(list(inspect.signature(each_answer).parameters), ["store", "service", "given"])
        self.assertEqual(list(inspect.signature(Answers).parameters), ["store", "choices"])
        self.assertEqual(list(inspect.signature(vars(Answers)["__call__"]).parameters)[1:], ["service", "given"])
        self.assertIsInstance(vars(Answers)["choices"], property)
        self.assertEqual({each_answer.__module__, Answers.__module__}, {"cappedcalls.answers"})


if __name__ == "__main__":
    unittest.main()
