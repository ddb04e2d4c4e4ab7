"""Points 2, 59 to 64 and 78: what is sure after a log, what may be, and what may still come."""

import inspect
import random
import unittest

from cappedcalls import openings as openings_module
from cappedcalls.answers import Answers
from cappedcalls.errors import CappedError, InvalidChoice, InvalidNote, InvalidSchema, SchemaMismatch
from cappedcalls.logs import Log
from cappedcalls.openings import brings, is_possible, is_reason, may_be, opening, reason, sure
from cappedcalls.questions import Question, answers_of
from cappedcalls.schemas import Schema
from cappedcalls.stores import Store
from makers import (answers_the_long_way, each_possible_store, is_possible_the_long_way, noted_log, random_log, random_part,
                    random_schema, random_store, some_columns)

GREATEST = 10 ** 30 - 1
X, Y, Z, W = (0,), (1,), (2,), (3,)
SERVICES = {"out": ("road", (0,), 2), "roads": ("road", (), None), "into": ("road", (1,), None),
            "named": ("town", (0,), None), "some": ("town", (1,), 2), "flags": ("flag", (), 3)}


def made(keys=None):
    return Schema({"road": 2, "town": 2, "flag": 1}, {"town": (0,)} if keys is None else keys, SERVICES)


def logged(*calls, schema=None):
    return noted_log(schema or made(), calls)


def asked(width, *parts, schema=None):
    return Question(schema or made(), width, list(parts))


def stored(schema=None, **rows):
    return Store(schema or made(), rows)


def road(one, other):
    return "road", (one, other)


def is_reason_the_long_way(log, question, row, told):
    """Return True if told is a tuple as point 60 says."""
    at, rows = told
    head, atoms = question.part_list()[at]
    if len(rows) != len(atoms) or any(one not in log.known(table) for one, (table, _) in zip(rows, atoms)):
        return False
    values = {}
    for terms, values_there in [(head, row), *[(terms, one) for one, (_, terms) in zip(rows, atoms)]]:
        for term, value in zip(terms, values_there):
            if (values.setdefault(term, value) if isinstance(term, tuple) else term) != value:
                return False
    return True


class OpeningCase(unittest.TestCase):
    def answers(self, question, store):
        return answers_the_long_way(question, store)

    def check_store(self, log, store):
        self.assertIsInstance(store, Store)
        self.assertEqual(store.schema, log.schema)
        self.assertTrue(is_possible_the_long_way(log, store))
        self.assertIs(is_possible(log, store), True)
        self.assertLessEqual(len(store) - len(log.known_store()), 40)

    def is_open(self, log, question):
        """Check that there is an opening, and return its store and its row."""
        found = opening(log, question)
        self.assertEqual((type(found), len(found)), (tuple, 2))
        store, row = found
        self.check_store(log, store)
        self.assertIn(row, self.answers(question, store))
        self.assertNotIn(row, sure(log, question))
        self.assertIsNotNone(may_be(log, question, row))
        return store, row

    def is_closed(self, log, question):
        self.assertIsNone(opening(log, question))

    def can_be(self, log, question, row):
        store = may_be(log, question, row)
        self.check_store(log, store)
        self.assertIn(row, self.answers(question, store))
        return store

    def cannot_be(self, log, question, *rows):
        for row in rows:
            self.assertIsNone(may_be(log, question, row), row)


class ExampleTest(unittest.TestCase):
    def test_example(self):
        schema = Schema({"road": 2}, {}, {"roads": ("road", (0,), 2)})
        log = Log(schema)
        log.note("roads", (1,), [(1, 5)])
        log.note("roads", (2,), [(2, 5), (2, 6)])
        from_one = Question(schema, 1, [(((0,),), [("road", (1, (0,)))])])
        found = (sure(log, from_one), opening(log, from_one), brings(log, "roads", (1,)), brings(log, "roads", (2,)))
        self.assertEqual(found, ([(5,)], None, False, True))


class PossibleTest(unittest.TestCase):
    def test_a_log_without_notes(self):
        self.assertIs(is_possible(logged(), stored()), True)
        self.assertIs(is_possible(logged(), stored(road=[(1, 2)], flag=[(9,)])), True)

    def test_known_rows_that_are_missing(self):
        log = logged(("out", (1,), [(1, 2), (1, 3)]), ("flags", (), [(1,), (2,), (3,)]))
        good = {"road": [(1, 2), (1, 3)], "flag": [(1,), (2,), (3,)]}
        self.assertIs(is_possible(log, Store(made(), good)), True)
        for table in good:
            for at in range(len(good[table])):
                rows = {**good, table: good[table][:at] + good[table][at + 1:]}
                self.assertIs(is_possible(log, Store(made(), rows)), False)
        self.assertIs(is_possible(log, stored()), False)

    def test_a_row_more(self):
        log = logged(("out", (1,), [(1, 2)]), ("out", (2,), [(2, 2), (2, 3)]), ("into", (9,), []))
        known = [(1, 2), (2, 2), (2, 3)]
        for row, expected in [((1, 3), False), ((3, 3), True), ((2, 4), True), ((3, 9), False), ((2, 9), False)]:
            self.assertIs(is_possible(log, stored(road=[*known, row])), expected, row)
        self.assertIs(is_possible(log, stored(road=known, town=[(1, 1)], flag=[(1,)])), True)

    def test_another_service_of_the_table(self):
        log = logged(("named", (1,), []))
        self.assertIs(is_possible(log, stored(town=[(1, 5)])), False)
        self.assertIs(is_possible(log, stored(town=[(2, 5)])), True)

    def test_known_store(self):
        generator = random.Random(59)
        for _ in range(30):
            log = random_log(generator, random_schema(generator))
            self.assertIs(is_possible(log, log.known_store()), True)

    def test_the_fact_about_choices(self):
        generator = random.Random(60)
        seen = {True: 0, False: 0}
        for _ in range(200):
            schema = random_schema(generator)
            log, store = random_log(generator, schema), random_store(generator, schema)
            try:
                store = store | log.known_store()
            except CappedError:
                pass
            try:
                Answers(store, {(service, given): rows for service, given, rows in log.call_list()})
                expected = True
            except InvalidChoice:
                expected = False
            self.assertIs(is_possible(log, store), expected)
            self.assertIs(is_possible_the_long_way(log, store), expected)
            seen[expected] += 1
        self.assertGreater(min(seen.values()), 20)


class SureTest(unittest.TestCase):
    def test_a_log_without_notes(self):
        self.assertEqual(sure(logged(), asked(1, ((X,), [road(X, Y)]))), [])
        self.assertEqual(sure(logged(), asked(1, (("b",), []), ((3,), []))), [(3,), ("b",)])
        self.assertEqual(sure(logged(), asked(1)), [])

    def test_answers_in_the_known_store(self):
        log = logged(("out", (1,), [(1, 2), (1, "a")]), ("out", (2,), [(2, 2)]), ("flags", (), [(2,)]))
        self.assertEqual(sure(log, asked(1, ((Y,), [road(X, Y)]))), [(2,), ("a",)])
        self.assertEqual(sure(log, asked(2, ((X, Z), [road(X, Y), road(Y, Z), ("flag", (Z,))]))), [(1, 2), (2, 2)])

    def test_random_logs(self):
        generator = random.Random(61)
        for _ in range(60):
            log = random_log(generator, random_schema(generator))
            question = Question(log.schema, 1, [random_part(generator, log.schema, 1) for _ in range(3)])
            self.assertEqual(sure(log, question), answers_of(question, log.known_store()))
            self.assertEqual(set(sure(log, question)), answers_the_long_way(question, log.known_store()))


class ReasonTest(unittest.TestCase):
    def setUp(self):
        self.log = logged(("out", (1,), [(1, 2), (1, 3)]), ("out", (2,), [(2, 3)]), ("out", (3,), [(3, 3)]),
                          ("flags", (), [(1,), (7,)]))
        self.question = asked(1, ((X,), [("flag", (X,))]), ((X,), [road(X, Y), road(Y, 3)]), ((7,), []), ((9,), []))

    def right(self, row, told):
        self.assertIs(is_reason(self.log, self.question, row, told), True, told)

    def wrong(self, row, told):
        self.assertIs(is_reason(self.log, self.question, row, told), False, told)

    def test_sure_rows(self):
        for row in sure(self.log, self.question):
            told = reason(self.log, self.question, row)
            self.assertEqual((type(told), len(told), type(told[0]), type(told[1])), (tuple, 2, int, list))
            self.assertTrue(is_reason_the_long_way(self.log, self.question, row, told))
            self.right(row, told)

    def test_rows_that_are_not_sure(self):
        for row in [(4,), ("a",), (8,), (0,)]:
            self.assertIsNone(reason(self.log, self.question, row))
            for told in [(0, [row]), (1, [(1, 2), (2, 3)]), (2, []), (3, [])]:
                self.wrong(row, told)

    def test_things_that_are_no_rows(self):
        for row in [None, True, 1, "a", (), (1, 1), (True,), [1], [(1,)], {}, (None,), ("A",), ([1],), (10 ** 30,), ((1,),)]:
            self.assertIsNone(reason(self.log, self.question, row), row)
            for told in [(0, [(1,)]), (0, [row]), (2, []), None]:
                self.wrong(row, told)

    def test_right_ones(self):
        self.right((1,), (0, [(1,)]))
        self.right((1,), (1, [(1, 2), (2, 3)]))
        self.right((1,), (1, [(1, 3), (3, 3)]))
        self.right((3,), (1, [(3, 3), (3, 3)]))
        self.right((7,), (2, []))
        self.right((7,), (0, [(7,)]))

    def test_another_part(self):
        for at in [0, 2, 3, 4, -1, -3, True, False, None, "a", (1,), 10 ** 40]:
            self.wrong((1,), (at, [(1, 2), (2, 3)]))
        self.wrong((7,), (3, []))
        self.wrong((7,), (-2, []))
        self.wrong((9,), (-1, []))
        self.right((9,), (3, []))
        self.wrong((1,), (False, [(1,)]))

    def test_a_row_less_and_a_row_more(self):
        for rows in [[], [(1, 2)], [(2, 3)], [(1, 2), (2, 3), (2, 3)]]:
            self.wrong((1,), (1, rows))
        self.wrong((7,), (2, [(7,)]))

    def test_rows_exchanged(self):
        self.wrong((1,), (1, [(2, 3), (1, 2)]))

    def test_rows_that_do_not_match(self):
        for rows in [[(1, 2), (3, 3)], [(1, 3), (2, 3)], [(2, 3), (3, 3)], [(1, 4), (4, 3)], [(1, 2), (1, 3)],
                     [(1,), (2, 3)], [(1, 2), (7,)]]:
            self.wrong((1,), (1, rows))

    def test_rows_that_are_not_known(self):
        question = asked(1, ((X,), [road(X, Y)]))
        self.assertIs(is_reason(self.log, question, (1,), (0, [(1, 2)])), True)
        for row in [(1, 4), (True, 2), (1, True), (1,), (), (1, 2, 3), None, [1, 2], 1, "ab", ([], {}), (None, None)]:
            self.assertIs(is_reason(self.log, question, (1,), (0, [row])), False, row)

    def test_other_things(self):
        for told in [None, True, 1, "ab", (), (1,), (1, 2), (1, None), (1, ((1, 2), (2, 3))), [1, [(1, 2), (2, 3)]],
                     (1, [(1, 2), (2, 3)], 1), {}, (1, {}), (1, "ab"), ((), []), (None, None), stored(), (stored(), [])]:
            self.wrong((1,), told)

    def test_width_0(self):
        question = asked(0, ((), [road(X, X)]))
        told = reason(self.log, question, ())
        self.assertEqual(told, (0, [(3, 3)]))
        self.assertIs(is_reason(self.log, question, (), told), True)
        self.assertIsNone(reason(self.log, question, (1,)))
        self.assertIs(is_reason(self.log, question, None, told), False)

    def test_variables_of_one_atom_that_meet(self):
        question = asked(1, ((X,), [road(X, X)]))
        self.assertEqual(reason(self.log, question, (3,)), (0, [(3, 3)]))
        self.assertIs(is_reason(self.log, question, (2,), (0, [(2, 3)])), False)
        self.assertIs(is_reason(self.log, question, (3,), (0, [(2, 3)])), False)

    def test_random_logs(self):
        generator = random.Random(62)
        for _ in range(60):
            log = random_log(generator, random_schema(generator))
            question = Question(log.schema, 1, [random_part(generator, log.schema, 1, 4) for _ in range(3)])
            for row in sure(log, question):
                told = reason(log, question, row)
                self.assertTrue(is_reason_the_long_way(log, question, row, told))
                self.assertIs(is_reason(log, question, row, told), True)
            for value in [1, 2, 3, "x", 99]:
                told = (generator.randrange(3), [generator.choice(log.known(table) or [None])
                                                 for table, _ in question.part_list()[0][1]])
                if None not in told[1] and told[0] < len(question.part_list()):
                    self.assertIs(is_reason(log, question, (value,), told),
                                  is_reason_the_long_way(log, question, (value,), told))
                self.assertIs(reason(log, question, (value,)) is None, (value,) not in sure(log, question))


class MayBeTest(OpeningCase):
    def test_a_log_without_notes(self):
        log = logged()
        question = asked(1, ((X,), [road(X, Y)]))
        for value in [1, "a", GREATEST, -GREATEST, 0]:
            self.can_be(log, question, (value,))
        self.can_be(log, asked(1, ((7,), [])), (7,))
        self.cannot_be(log, asked(1, ((7,), [])), (8,))
        self.cannot_be(log, asked(1), (8,))

    def test_things_that_are_no_rows(self):
        question = asked(1, ((X,), [road(X, Y)]))
        self.cannot_be(logged(), question, None, True, 1, "a", (), (1, 1), (True,), [1], {}, (None,), ("A",), ([1],),
                       (10 ** 30,), ((1,),), stored(), (X,))
        self.cannot_be(logged(), asked(0, ((), [road(X, Y)])), None, (1,), [], "")
        self.can_be(logged(), asked(0, ((), [road(X, Y)])), ())

    def test_sure_rows(self):
        log = logged(("roads", (), [(1, 2)]))
        self.can_be(log, asked(1, ((X,), [road(X, Y)])), (1,))
        self.cannot_be(log, asked(1, ((X,), [road(X, Y)])), (2,))

    def test_complete_calls(self):
        log = logged(("out", (1,), [(1, 5)]), ("into", (7,), [(2, 7)]))
        question = asked(2, ((X, Y), [road(X, Y)]))
        self.cannot_be(log, question, (1, 6), (1, 7), (3, 7))
        for row in [(1, 5), (2, 7), (2, 8), (3, 5), (6, 6)]:
            self.can_be(log, question, row)

    def test_calls_with_as_many_rows_as_the_cap(self):
        log = logged(("out", (1,), [(1, 5), (1, 6)]))
        self.can_be(log, asked(2, ((X, Y), [road(X, Y)])), (1, 7))

    def test_keys(self):
        log = logged(("named", (1,), [(1, 5)]))
        question = asked(2, ((X, Y), [("town", (X, Y))]))
        self.cannot_be(log, question, (1, 6))
        self.can_be(log, question, (1, 5))
        self.can_be(log, question, (2, 6))
        two = asked(2, ((X, Y), [("town", (9, X)), ("town", (9, Y))]))
        self.can_be(log, two, (3, 3))
        self.cannot_be(log, two, (3, 4))

    def test_a_key_without_a_complete_call(self):
        log = logged(("some", (5,), [(1, 5), (2, 5)]))
        question = asked(2, ((X, Y), [("town", (X, Y))]))
        self.cannot_be(log, question, (1, 6))
        self.can_be(log, question, (3, 5))

    def test_new_values_keep_away_from_all_others(self):
        calls = [("out", (at,), []) for at in range(50)]
        log = logged(*calls)
        question = asked(1, ((X,), [road(Y, X)]))
        store = self.can_be(log, question, (1,))
        self.assertGreaterEqual(store["road"][0][0], 50)
        self.can_be(log, asked(1, ((X,), [road(Y, X), ("flag", (Z,)), road(Z, Y)])), (51,))
        # The value of the row may be the very one that would be new.
        log = logged(("into", (0,), []))
        self.cannot_be(log, asked(1, ((X,), [road(Y, X)])), (0,))
        keyed = asked(2, ((X, Y), [("town", (X, 1)), ("town", (Z, 2)), ("flag", (Y,))]))
        for value in range(4):
            self.can_be(logged(), keyed, (value, 3))

    def test_known_rows_are_taken_where_nothing_else_can_be(self):
        log = logged(("roads", (), [(1, 2), (2, 3)]), ("flags", (), [(3,)]))
        question = asked(1, ((X,), [road(X, Y), ("flag", (Y,))]))
        self.can_be(log, question, (2,))
        self.cannot_be(log, question, (1,))
        open_flags = logged(("roads", (), [(1, 2), (2, 3)]))
        self.can_be(open_flags, question, (1,))
        self.cannot_be(open_flags, question, (3,))

    def test_a_choice_that_fails_and_one_that_does_not(self):
        log = logged(("roads", (), [(1, 2), (1, 3), (1, 4)]), ("named", (2,), []), ("named", (4,), []))
        question = asked(1, ((X,), [road(X, Y), ("town", (Y, Z))]))
        store = self.can_be(log, question, (1,))
        self.assertEqual([row[0] for row in store["town"]], [3])
        log.note("named", (3,), [])
        self.cannot_be(log, question, (1,))


class OpeningTest(OpeningCase):
    def test_a_log_without_notes(self):
        log = logged()
        self.is_open(log, asked(1, ((X,), [road(X, Y)])))
        self.is_open(log, asked(0, ((), [road(X, Y)])))
        self.is_closed(log, asked(1))
        self.is_closed(log, asked(1, ((7,), [])))
        store, row = self.is_open(log, asked(2, ((7, 8), []), ((X, 8), [road(X, 9)])))
        self.assertEqual((len(store), row[1]), (1, 8))

    def test_after_complete_calls(self):
        log = logged(("roads", (), [(1, 2), (2, 3)]))
        for part in [((X,), [road(X, Y)]), ((X,), [road(X, Y), road(Y, Z)]), ((Z,), [road(X, X), road(Y, Z)])]:
            self.is_closed(log, asked(1, part))
        self.is_open(log, asked(1, ((X,), [road(X, Y), ("flag", (Z,))])))
        log.note("flags", (), [])
        self.is_closed(log, asked(1, ((X,), [road(X, Y), ("flag", (Z,))])))
        self.is_open(log, asked(1, ((X,), [("town", (X, Y))])))

    def test_no_row_is_new_where_the_answer_is_sure(self):
        log = logged(("out", (1,), [(1, 5), (1, 6)]))
        self.is_closed(log, asked(0, ((), [road(1, X)])))
        self.is_open(log, asked(1, ((X,), [road(1, X)])))
        self.is_closed(log, asked(1, ((1,), [road(1, X)])))

    def test_new_values(self):
        log = logged(*[("out", (at,), []) for at in range(30)], ("into", ("x",), [(at, "x") for at in range(40, 60)]))
        store, row = self.is_open(log, asked(1, ((X,), [road(X, Y)])))
        self.assertNotIn(row[0], range(30))
        # The answer of another part has the very value that would be new.
        numbers = [((at,), []) for at in range(80)]
        store, row = self.is_open(log, asked(1, *numbers, ((X,), [road(X, Y)])))
        self.assertNotIn(row[0], range(80))

    def test_two_new_rows_that_agree_with_a_key(self):
        log = logged(("named", (1,), [(1, 5)]))
        question = asked(2, ((Y, Z), [("town", (X, Y)), ("town", (X, Z))]))
        _, row = self.is_open(log, question)
        self.assertEqual(row[0], row[1])
        self.is_open(log, asked(1, ((X,), [("town", (X, Y)), ("town", (Y, X))])))
        self.is_closed(log, asked(1, ((X,), [("town", (X, 3)), ("town", (X, 4))])))
        self.is_closed(log, asked(1, ((Y,), [("town", (1, Y))])))
        self.is_closed(log, asked(1, ((Z,), [("town", (1, Y)), ("town", (1, Z))])))

    def test_keys_that_exclude_new_rows(self):
        log = logged(("some", (5,), [(1, 5), (2, 5)]))
        self.is_closed(log, asked(1, ((Y,), [("town", (1, Y))])))
        self.is_open(log, asked(1, ((Y,), [("town", (3, Y))])))
        no_keys = logged(("some", (5,), [(1, 5), (2, 5)]), schema=made({}))
        self.is_open(no_keys, asked(1, ((Y,), [("town", (1, Y))]), schema=made({})))

    def test_a_key_that_meets_after_a_choice(self):
        # Y becomes 7 or 8; the two rows of the key 7 would have to be one.
        log = logged(("roads", (), [(1, 7), (1, 8)]), ("named", (8,), [(8, 3)]))
        question = asked(1, ((Z,), [road(1, Y), ("town", (Y, Z)), ("town", (7, 9))]))
        self.assertIn(self.is_open(log, question)[1], [(3,), (9,)])
        self.can_be(log, question, (3,))
        self.can_be(log, question, (9,))
        self.cannot_be(log, question, (4,), (7,), (8,))
        self.is_closed(log, asked(1, ((Y,), [road(1, Y), ("town", (Y, 4)), ("town", (7, 9))])))

    def test_another_service_of_the_table(self):
        log = logged(("into", (5,), [(1, 5)]))
        self.is_closed(log, asked(1, ((X,), [road(X, 5)])))
        self.is_open(log, asked(1, ((X,), [road(1, X)])))
        self.is_closed(log, asked(1, ((X,), [road(X, 5), road(X, Y)])))

    def test_mixed_rows(self):
        # The first row is a known one, the second one a new one.
        log = logged(("roads", (), [(1, 2), (2, 3)]))
        store, row = self.is_open(log, asked(2, ((X, Z), [road(X, Y), ("town", (Y, Z))])))
        self.assertIn(row[0], (1, 2))
        self.assertEqual(len(store), 3)

    def test_only_the_last_part_is_open(self):
        log = logged(("roads", (), [(1, 2)]), ("flags", (), []))
        store, row = self.is_open(log, asked(1, ((X,), [road(X, Y)]), ((X,), [("flag", (X,))]), ((X,), [("town", (X, X))])))
        self.assertEqual(store["town"], [(row[0], row[0])])


class BringsTest(OpeningCase):
    def test_calls_that_are_not_noted(self):
        for service, given in [("out", (1,)), ("roads", ()), ("into", ("a",)), ("named", (1,)), ("flags", ())]:
            self.assertIs(brings(logged(), service, given), True)

    def test_complete_calls(self):
        log = logged(("out", (1,), [(1, 5)]), ("out", (2,), [(2, 5), (2, 6)]), ("flags", (), []))
        found = [brings(log, *call) for call in [("out", (1,)), ("out", (2,)), ("out", (3,)), ("flags", ()), ("roads", ())]]
        self.assertEqual(found, [False, True, True, False, True])
        log.note("roads", (), [(1, 5), (2, 5), (2, 6)])
        found = [brings(log, *call) for call in [("out", (2,)), ("out", (3,)), ("into", (9,)), ("named", (1,))]]
        self.assertEqual(found, [False, False, False, True])

    def test_keys(self):
        log = logged(("some", (5,), [(1, 5), (2, 5)]), ("named", (3,), []))
        found = [brings(log, *call) for call in [("named", (1,)), ("named", (3,)), ("named", (4,)), ("some", (5,)),
                                                 ("some", (6,))]]
        self.assertEqual(found, [False, False, True, True, True])

    def test_all_columns_given(self):
        schema = Schema({"road": 2}, {}, {"exact": ("road", (0, 1), None), "out": ("road", (0,), 2)})
        log = noted_log(schema, [("out", (1,), [(1, 1)]), ("out", (2,), [(2, 1), (2, 2)])])
        found = [brings(log, "exact", given) for given in [(1, 1), (1, 2), (2, 1), (2, 3), (3, 3)]]
        self.assertEqual(found, [False, False, False, True, True])

    def test_wrong_calls(self):
        log = logged(("out", (1,), [(1, 5)]))
        for service in ["no", "road", None, True, 1, (), ["out"], {}]:
            with self.assertRaises(InvalidNote) as caught:
                brings(log, service, None)
            self.assertEqual(caught.exception.part, "service")
        for given in [(), (1, 2), None, True, 1, [1], (True,), (None,), ("A",), (10 ** 30,), ([1],), ((1,),), {}]:
            with self.assertRaises(InvalidNote) as caught:
                brings(log, "out", given)
            self.assertEqual(caught.exception.part, "given")


def small_schema(generator):
    """Return a schema so small that all its stores with two new rows can be gone through."""
    while True:
        tables = {name: generator.randint(1, 2) for name in generator.sample(["ta", "tb"], generator.randint(1, 2))}
        keys = {name: (generator.randint(0, 1),) for name, width in tables.items() if width == 2 and generator.random() < 0.6}
        services = {}
        for name in generator.sample("abcdefgh", generator.randint(2, 6)):
            table = generator.choice(sorted(tables))
            services[name] = (table, some_columns(generator, tables[table], 0, tables[table]),
                              generator.choice([None, 1, 2, 3, 3]))
        try:
            return Schema(tables, keys, services)
        except InvalidSchema:
            continue


class EveryStoreTest(OpeningCase):
    """What is found is held against all stores with a few values that nothing else has."""

    values = (1, 2, 3, "x", 501, 502)

    def question(self, generator, schema, width):
        parts = []
        while not parts or generator.random() < 0.2:
            _, atoms = random_part(generator, schema, 0, 2)
            bound = [term for _, terms in atoms for term in terms if isinstance(term, tuple)]
            if bound:
                parts.append((tuple(generator.choice(bound * 3 + [1]) for _ in range(width)), atoms))
        return Question(schema, width, parts)

    def answers_of_all(self, log, question):
        most = max(len(atoms) for _, atoms in question.part_list())
        return {row for store in each_possible_store(log, self.values, most)
                for row in answers_the_long_way(question, store)}

    def test_openings(self):
        generator = random.Random(63)
        seen = {True: 0, False: 0}
        for _ in range(40):
            log = random_log(generator, small_schema(generator), 3, (1, 2, "x"))
            width = generator.randint(0, 2)
            question = self.question(generator, log.schema, width)
            everything = self.answers_of_all(log, question)
            is_open = everything != set(sure(log, question))
            check = self.is_open if is_open else self.is_closed
            check(log, question)
            seen[is_open] += 1
            for _ in range(8):
                row = tuple(generator.choice(self.values) for _ in range(width))
                if row in everything:
                    self.can_be(log, question, row)
                else:
                    self.cannot_be(log, question, row)
        self.assertGreater(min(seen.values()), 8)

    def test_brings(self):
        generator = random.Random(64)
        seen = {True: 0, False: 0}
        for _ in range(40):
            log = random_log(generator, small_schema(generator), 3, (1, 2, "x"))
            known = log.known_store()
            stores = list(each_possible_store(log, self.values, 1))
            for service, (table, columns, _) in log.schema.services.items():
                given = tuple(generator.choice(self.values) for _ in columns)
                expected = any(tuple(row[at] for at in columns) == given and (table, row) not in known
                               for store in stores for row in store[table])
                self.assertIs(brings(log, service, given), expected)
                seen[expected] += 1
        self.assertGreater(min(seen.values()), 30)


class ManyRowsTest(OpeningCase):
    """Logs of 300 known rows."""

    def answers(self, question, store):
        # The long way would be far too long.
        return answers_of(question, store)

    def setUp(self):
        generator = random.Random(300)
        self.rows = sorted(generator.sample([(one, other) for one in range(60) for other in range(60)], 300))
        self.path = asked(2, ((X, (5,)), [road((at,), (at + 1,)) for at in range(5)]))
        self.circle = asked(1, ((X,), [road((at,), ((at + 1) % 5,)) for at in range(5)]))
        self.apart = asked(0, ((), [road((2 * at,), (2 * at + 1,)) for at in range(5)]))

    def test_complete(self):
        log = logged(("roads", (), self.rows))
        for question in [self.path, self.circle, self.apart]:
            found = sure(log, question)
            self.is_closed(log, question)
            self.assertTrue(is_reason(log, question, found[-1], reason(log, question, found[-1])))
            self.cannot_be(log, question, (1000,) * question.width if question.width else None)
            self.can_be(log, question, found[0])
        self.is_closed(log, asked(6, (((0,), (1,), (2,), (3,), (4,), (5,)), self.path.part_list()[0][1])))
        self.assertIs(brings(log, "out", (1,)), False)
        self.is_open(log, asked(1, ((X,), [road(X, Y), ("town", (Y, X))])))
        self.assertIs(is_possible(log, stored(road=self.rows, town=[(1, 1)])), True)
        self.assertIs(is_possible(log, stored(road=[*self.rows, (99, 99)])), False)

    def test_as_many_rows_as_the_caps(self):
        calls = [("out", (at,), [(at, at + 1), (at, at + 2)]) for at in range(150)]
        log = logged(*calls)
        self.assertEqual(len(log.known_store()), 300)
        for question in [self.path, self.circle]:
            self.is_open(log, question)
        self.is_closed(log, self.apart)
        self.can_be(log, self.path, (149, 149))
        self.assertIs(brings(log, "out", (1,)), True)

    def test_all_calls_but_one(self):
        log = logged(*[("out", (at,), [(at, (at * 7 + 1) % 299)]) for at in range(299)])
        self.is_open(log, self.path)
        self.cannot_be(log, asked(1, ((X,), [road(X, Y), road(Y, X), road(X, X)])), (5,))
        self.is_closed(log, asked(1, ((X,), [road(7, Y), road(Y, Z), road(Z, X)])))


class ErrorsTest(unittest.TestCase):
    def test_schemas_that_differ(self):
        log, away = logged(), asked(1, schema=made({}))
        self.assertNotEqual(log.schema, away.schema)
        for row in [(1,), (1, 2), None, True, [1]]:
            for call in [lambda: reason(log, away, row), lambda: may_be(log, away, row),
                         lambda: is_reason(log, away, row, (0, [])), lambda: is_reason(log, away, row, None)]:
                with self.assertRaises(SchemaMismatch):
                    call()
        for call in [lambda: sure(log, away), lambda: opening(log, away), lambda: is_possible(log, stored(made({})))]:
            with self.assertRaises(SchemaMismatch):
                call()


class SharingTest(unittest.TestCase):
    """Points 2, 64 and 78."""

    def setUp(self):
        self.log = logged(("out", (1,), [(1, 2), (1, 3)]), ("out", (2,), [(2, 3)]), ("flags", (), []))
        self.question = asked(1, ((X,), [road(X, Y), road(Y, Z)]), ((X,), [("town", (X, 1))]))

    def called(self):
        told = reason(self.log, self.question, (1,))
        return [sure(self.log, self.question), told, is_reason(self.log, self.question, (1,), told),
                may_be(self.log, self.question, (1,)), may_be(self.log, self.question, (9,)),
                opening(self.log, self.question), brings(self.log, "out", (1,)),
                is_possible(self.log, self.log.known_store())]

    def test_the_arguments_do_not_change(self):
        before = self.log.call_list(), self.log.known_store(), len(self.log), self.question.part_list()
        self.called()
        for call in [lambda: brings(self.log, "no", ()), lambda: sure(self.log, asked(1, schema=made({})))]:
            with self.assertRaises(CappedError):
                call()
        self.assertEqual((self.log.call_list(), self.log.known_store(), len(self.log), self.question.part_list()), before)

    def test_changes_to_what_is_returned(self):
        sure(self.log, self.question).clear()
        reason(self.log, self.question, (1,))[1].clear()
        may_be(self.log, self.question, (1,))["road"].clear()
        opening(self.log, self.question)[0]["road"].clear()
        self.assertEqual(sure(self.log, self.question), [(1,)])
        self.assertEqual(reason(self.log, self.question, (1,)), (0, [(1, 2), (2, 3)]))
        self.assertEqual(self.log.known("road"), [(1, 2), (1, 3), (2, 3)])

    def test_told_is_not_modified(self):
        told = (0, [(1, 2), (2, 3)])
        self.assertIs(is_reason(self.log, self.question, (1,), told), True)
        self.assertEqual(told, (0, [(1, 2), (2, 3)]))

    def test_inside_a_trial(self):
        inside = self.log.trial([("roads", (), [(1, 2), (1, 3), (2, 3)])], lambda log: (
            opening(log, asked(1, ((X,), [road(X, Y)]))), brings(log, "out", (1,))))
        self.assertEqual(inside, (None, False))
        self.assertIsNotNone(opening(self.log, asked(1, ((X,), [road(X, Y)]))))
        self.assertIs(brings(self.log, "out", (1,)), True)


class InterfaceTest(unittest.TestCase):
    def test_names_and_arguments(self):
        arguments = {"is_possible": ["log", "store"], "sure": ["log", "question"], "reason": ["log", "question", "row"],
                     "is_reason": ["log", "question", "row", "told"], "may_be": ["log", "question", "row"],
                     "opening": ["log", "question"], "brings": ["log", "service", "given"]}
        for name, expected in arguments.items():
            function = getattr(openings_module, name)
            self.assertEqual(list(inspect.signature(function).parameters), expected)
            self.assertEqual(function.__module__, "cappedcalls.openings")


if __name__ == "__main__":
    unittest.main()
