"""Points 2, 55 to 58, 78 and 79: logs, what is known from them, and trials."""

import inspect
import random
import unittest

from cappedcalls.errors import Contradiction, InvalidNote, InvalidStore, LimitExceeded, UnknownName
from cappedcalls.logs import Log
from cappedcalls.schemas import Schema
from cappedcalls.stores import Store
from cappedcalls.values import sorted_rows
from makers import random_schema

GREATEST = 10 ** 30 - 1
NO_VALUES = [True, False, None, "", "A", "a b", "abcdefghi", 10 ** 30, -(10 ** 30), (1,), [1], {}, ()]


def made():
    services = {"out": ("road", (0,), 2), "roads": ("road", (), None), "exact": ("road", (0, 1), 3),
                "named": ("town", (0,), 2), "into": ("town", (1,), 3), "flags": ("flag", (), 1),
                "free": ("road", (1,), None)}
    return Schema({"road": 2, "town": 2, "flag": 1}, {"town": (0,)}, services)


def state(log):
    tables = log.schema.table_names()
    calls = log.call_list()
    return (calls, {table: log.known(table) for table in tables}, len(log),
            [log.is_complete(service, given) for service, given, _ in calls], [call[:2] in log for call in calls])


class LogCase(unittest.TestCase):
    def setUp(self):
        self.log = Log(made())

    def refused(self, error, field, *note, log=None):
        # An empty log is false.
        log = self.log if log is None else log
        before = state(log)
        with self.assertRaises(error) as caught:
            log.note(*note)
        self.assertIs(type(caught.exception), error)
        name = {InvalidNote: "part", Contradiction: "word", LimitExceeded: "limit"}[error]
        self.assertEqual(getattr(caught.exception, name), field, repr(note)[:200])
        self.assertEqual(state(log), before)

    def noted(self, *note):
        self.assertIsNone(self.log.note(*note))


class ExampleTest(unittest.TestCase):
    def test_example(self):
        schema = Schema({"road": 2}, {}, {"roads": ("road", (0,), 2)})
        log = Log(schema)
        log.note("roads", (1,), [(1, 5), (1, 4)])
        log.note("roads", (2,), [])
        self.assertEqual((log.is_complete("roads", (1,)), log.is_complete("roads", (2,)), log.known("road")),
                         (False, True, [(1, 4), (1, 5)]))
        with self.assertRaises(Contradiction) as caught:
            log.note("roads", (1,), [(1, 5), (1, 6)])
        self.assertEqual(caught.exception.word, "again")


class EmptyTest(LogCase):
    def test_an_empty_log(self):
        self.assertEqual(self.log.schema, made())
        self.assertEqual((len(self.log), self.log.call_list(), self.log.known("road")), (0, [], []))
        self.assertEqual(self.log.known_store(), Store(made(), {}))
        self.assertIs(self.log.is_complete("out", (1,)), False)
        self.assertIs(("out", (1,)) in self.log, False)


class NoteTest(LogCase):
    def test_service(self):
        for service in ["no", "road", "", None, True, 0, 1, (), ("out",), ["out"], {}, [[]], "Out", b"out"]:
            self.refused(InvalidNote, "service", service, (1,), [])
            self.refused(InvalidNote, "service", service, None, None)

    def test_given(self):
        for given in [(), (1, 2), 1, None, True, "a", [1], {1: 1}, ([1],), ((1,),)]:
            self.refused(InvalidNote, "given", "out", given, [])
            self.refused(InvalidNote, "given", "out", given, None)
        for value in NO_VALUES:
            self.refused(InvalidNote, "given", "out", (value,), [])
        self.refused(InvalidNote, "given", "roads", (1,), [])
        self.refused(InvalidNote, "given", "exact", (1,), [])

    def test_rows(self):
        for rows in [None, (), ((1, 2),), "ab", 1, True, {}, {(1, 2): True}, [1], [None], [[1, 2]], [()], [(1,)],
                     [(1, 2, 3)], [(1, 2), (1,)], ["ab"], [(1, 2), [1, 3]]]:
            self.refused(InvalidNote, "rows", "out", (1,), rows)
        for value in NO_VALUES:
            self.refused(InvalidNote, "rows", "out", (1,), [(1, value)])
            self.refused(InvalidNote, "rows", "roads", (), [(1, 2), (value, 3)])
        self.refused(InvalidNote, "rows", "out", (1,), [(1, 2), (1, 2)])
        self.refused(InvalidNote, "rows", "roads", (), [(1, 2), (3, 4), (1, 2)])

    def test_the_greatest_values(self):
        self.noted("roads", (), [(GREATEST, -GREATEST), ("abcdefgh", 0)])
        self.assertEqual(self.log.known("road"), [(GREATEST, -GREATEST), ("abcdefgh", 0)])

    def test_fit(self):
        self.refused(Contradiction, "fit", "out", (1,), [(2, 1)])
        self.refused(Contradiction, "fit", "out", (1,), [(1, 1), (2, 1)])
        self.refused(Contradiction, "fit", "free", (1,), [(1, 2)])
        self.refused(Contradiction, "fit", "exact", (1, 2), [(2, 1)])
        self.noted("free", (1,), [(2, 1), ("x", 1)])

    def test_many(self):
        self.refused(Contradiction, "many", "out", (1,), [(1, 1), (1, 2), (1, 3)])
        self.refused(Contradiction, "many", "flags", (), [(1,), (2,)])
        self.noted("roads", (), [(1, at) for at in range(9)])

    def test_many_of_a_whole_service_with_a_cap(self):
        self.refused(Contradiction, "many", "named", (1,), [(1, 1), (1, 2), (1, 3)])
        self.refused(Contradiction, "key", "named", (1,), [(1, 1), (1, 2)])

    def test_again(self):
        self.noted("out", (1,), [(1, 1), (1, 2)])
        self.refused(Contradiction, "again", "out", (1,), [(1, 1)])
        self.refused(Contradiction, "again", "out", (1,), [])
        self.refused(Contradiction, "again", "out", (1,), [(1, 1), (1, 3)])
        self.noted("out", (2,), [(2, 2)])
        self.refused(Contradiction, "again", "out", (2,), [(2, 2), (2, 3)])

    def test_again_with_the_same_rows(self):
        self.noted("out", (1,), [(1, 1), (1, 2)])
        self.noted("out", (2,), [])
        before = state(self.log)
        self.noted("out", (1,), [(1, 2), (1, 1)])
        self.noted("out", (1,), [(1, 1), (1, 2)])
        self.noted("out", (2,), [])
        self.assertEqual(state(self.log), before)
        self.assertEqual([call[:2] for call in self.log.call_list()], [("out", (1,)), ("out", (2,))])

    def test_again_where_more_is_known_by_now(self):
        self.noted("out", (1,), [(1, 1), (1, 2)])
        self.noted("free", (3,), [(1, 3)])
        before = state(self.log)
        self.noted("out", (1,), [(1, 2), (1, 1)])
        self.assertEqual(state(self.log), before)

    def test_key(self):
        self.noted("into", (5,), [(1, 5), (2, 5)])
        self.refused(Contradiction, "key", "named", (1,), [(1, 6)])
        self.refused(Contradiction, "key", "into", (6,), [(3, 6), (2, 6)])
        self.noted("named", (1,), [(1, 5)])
        self.noted("named", (3,), [(3, 6)])

    def test_key_among_the_rows_themselves(self):
        schema = Schema({"town": 3}, {"town": (0,)}, {"into": ("town", (1,), 4)})
        log = Log(schema)
        self.refused(Contradiction, "key", "into", (5,), [(1, 5, 1), (2, 5, 1), (1, 5, 2)], log=log)
        log.note("into", (5,), [(1, 5, 1), (2, 5, 1)])
        self.assertEqual(len(log), 1)

    def test_missing(self):
        self.noted("out", (1,), [(1, 1), (1, 2)])
        self.refused(Contradiction, "missing", "roads", (), [(1, 1)])
        self.refused(Contradiction, "missing", "roads", (), [])
        self.refused(Contradiction, "missing", "exact", (1, 2), [])
        self.refused(Contradiction, "missing", "free", (2,), [(3, 2)])
        self.noted("free", (2,), [(3, 2), (1, 2)])
        self.noted("exact", (1, 1), [(1, 1)])
        self.noted("roads", (), [(1, 1), (1, 2), (3, 2)])

    def test_missing_by_fewer_rows_than_the_cap(self):
        self.noted("free", (2,), [(1, 2)])
        self.refused(Contradiction, "missing", "out", (1,), [(1, 3)])
        self.refused(Contradiction, "missing", "out", (1,), [])
        # As many rows as the cap tell nothing of others.
        self.noted("out", (1,), [(1, 3), (1, 4)])
        self.noted("out", (2,), [])

    def test_new(self):
        self.noted("out", (1,), [(1, 1)])
        self.refused(Contradiction, "new", "free", (2,), [(1, 2)])
        self.refused(Contradiction, "new", "roads", (), [(1, 1), (2, 2), (1, 2)])
        self.refused(Contradiction, "new", "exact", (1, 2), [(1, 2)])
        self.noted("free", (1,), [(1, 1), (2, 1)])
        self.refused(Contradiction, "new", "out", (3,), [(3, 1)])
        self.noted("out", (2,), [(2, 1), (2, 2)])
        self.noted("free", (2,), [(2, 2), (3, 2)])

    def test_new_after_a_call_without_rows(self):
        self.noted("flags", (), [])
        self.noted("named", (1,), [])
        self.refused(Contradiction, "new", "into", (5,), [(1, 5)])
        self.noted("into", (5,), [(2, 5)])

    def test_as_many_rows_as_the_cap_exclude_none(self):
        self.noted("out", (1,), [(1, 1), (1, 2)])
        self.noted("free", (3,), [(1, 3)])
        self.assertEqual(self.log.known("road"), [(1, 1), (1, 2), (1, 3)])

    def test_tables_do_not_meet(self):
        self.noted("roads", (), [(1, 1)])
        self.noted("into", (7,), [(1, 7)])
        self.noted("flags", (), [(1,)])
        self.assertEqual([self.log.known(table) for table in ["flag", "road", "town"]], [[(1,)], [(1, 1)], [(1, 7)]])

    def test_order_of_two_errors(self):
        self.refused(InvalidNote, "service", "no", (1,), [(2, 2)])
        self.refused(InvalidNote, "given", "out", (), None)
        self.refused(InvalidNote, "rows", "out", (1,), [(2, 1), (2, 1)])
        self.refused(Contradiction, "fit", "out", (1,), [(1, 1), (1, 2), (2, 3)])
        self.noted("out", (1,), [(1, 1)])
        self.refused(InvalidNote, "rows", "out", (1,), [(1, 1), (1, True)])
        self.refused(Contradiction, "fit", "out", (1,), [(2, 2)])
        self.refused(Contradiction, "many", "out", (1,), [(1, 1), (1, 2), (1, 3)])
        self.refused(Contradiction, "again", "out", (1,), [(1, 2)])
        self.noted("named", (1,), [(1, 1)])
        self.refused(Contradiction, "again", "named", (1,), [(1, 2)])
        # Two rows agree with known ones in the key, and a known row is missing.
        self.noted("named", (2,), [(2, 5)])
        self.refused(Contradiction, "key", "into", (5,), [(1, 5)])
        # A known row is missing, and another one is new.
        self.noted("named", (3,), [])
        self.refused(Contradiction, "missing", "into", (5,), [(3, 5)])
        self.refused(Contradiction, "new", "into", (5,), [(2, 5), (3, 5)])

    def test_the_limit_comes_last(self):
        self.noted("roads", (), [(at, 0) for at in range(300)])
        self.refused(Contradiction, "new", "exact", (1, 1), [(1, 1)])
        self.refused(LimitExceeded, 300, "flags", (), [(1,)])
        self.refused(InvalidNote, "rows", "flags", (), [(True,)])
        self.noted("flags", (), [])
        self.noted("named", (1,), [])
        self.refused(Contradiction, "new", "into", (5,), [(1, 5)])
        self.refused(LimitExceeded, 300, "into", (5,), [(2, 5)])

    def test_300_and_301_known_rows_over_two_tables(self):
        self.noted("roads", (), [(at, 0) for at in range(297)])
        self.noted("into", (5,), [(1, 5), (2, 5)])
        self.noted("flags", (), [(1,)])
        self.assertEqual(len(self.log.known_store()), 300)
        self.noted("named", (1,), [(1, 5)])
        self.noted("free", (0,), [(at, 0) for at in range(297)])
        self.noted("into", (6,), [])
        self.refused(LimitExceeded, 300, "named", (3,), [(3, 8)])
        self.refused(LimitExceeded, 300, "into", (7,), [(3, 7)])
        self.assertEqual(len(self.log.known_store()), 300)

    def test_301_rows_at_once(self):
        self.refused(LimitExceeded, 300, "roads", (), [(at, 0) for at in range(301)])
        self.refused(LimitExceeded, 300, "roads", (), [(at, 0) for at in range(2000)])
        self.noted("roads", (), [(at, 0) for at in range(300)])

    def test_calls_without_rows_are_not_limited(self):
        for at in range(1000):
            self.noted("out", (at,), [])
        self.assertEqual(len(self.log), 1000)


class SlowLog:
    """Point 56 word by word."""

    def __init__(self, schema):
        self.schema = schema
        self.calls = []

    def known(self, table):
        return {row for service, _, rows in self.calls for row in rows if self.schema.service_of(service)[0] == table}

    def is_complete(self, service, rows):
        return self.schema.is_whole(service) or len(rows) < self.schema.service_of(service)[2]

    def fits(self, row, service, given):
        return tuple(row[at] for at in self.schema.service_of(service)[1]) == given

    def wrong(self, service, given, rows):
        table, _, cap = self.schema.service_of(service)
        known, key = self.known(table), self.schema.key_of(table)
        if not all(self.fits(row, service, given) for row in rows):
            return "fit"
        if cap is not None and len(rows) > cap:
            return "many"
        if any(call[:2] == (service, given) and set(call[2]) != set(rows) for call in self.calls):
            return "again"
        both = known | set(rows)
        if key is not None and any(one != other and all(one[at] == other[at] for at in key)
                                   for one in both for other in both):
            return "key"
        if self.is_complete(service, rows) and any(self.fits(row, service, given) for row in known - set(rows)):
            return "missing"
        for row in set(rows) - known:
            for name, values, noted in self.calls:
                same = self.schema.service_of(name)[0] == table
                if same and self.is_complete(name, noted) and self.fits(row, name, values):
                    return "new"
        return None

    def note(self, service, given, rows):
        word = self.wrong(service, given, rows)
        if word is None and all(call[:2] != (service, given) for call in self.calls):
            self.calls.append((service, given, sorted_rows(rows)))
        return word


class RandomTest(unittest.TestCase):
    def test_random_notes(self):
        generator = random.Random(56)
        seen = {}
        for _ in range(150):
            schema = random_schema(generator)
            log, slow = Log(schema), SlowLog(schema)
            for _ in range(25):
                service = generator.choice(schema.service_names())
                table, columns, _ = schema.service_of(service)
                given = tuple(generator.choice([1, 2]) for _ in columns)
                rows = {tuple(generator.choice([1, 2, 3]) for _ in range(schema.width_of(table)))
                        for _ in range(generator.randint(0, 3))}
                if generator.random() < 0.9:
                    rows = {tuple(dict(zip(columns, given)).get(at, value) for at, value in enumerate(row))
                            for row in rows}
                rows = generator.sample(sorted(rows), len(rows))
                expected = slow.note(service, given, rows)
                seen[expected] = seen.get(expected, 0) + 1
                found = None
                try:
                    log.note(service, given, rows)
                except Contradiction as error:
                    found = error.word
                self.assertEqual(found, expected)
                self.assertEqual(log.call_list(), slow.calls)
                for name in schema.table_names():
                    self.assertEqual(log.known(name), sorted_rows(list(slow.known(name))))
                for name, values, noted in slow.calls:
                    self.assertIs(log.is_complete(name, values), slow.is_complete(name, noted))
        self.assertEqual(set(seen), {None, "fit", "many", "again", "key", "missing", "new"})
        self.assertGreater(min(seen.values()), 10)


class AskedTest(LogCase):
    def setUp(self):
        super().setUp()
        self.noted("out", (1,), [(1, 9), (1, "a")])
        self.noted("out", (2,), [(2, 7)])
        self.noted("into", (5,), [("x", 5), (3, 5), (1, 5)])
        self.noted("named", (8,), [])

    def test_known(self):
        self.assertEqual(self.log.known("road"), [(1, 9), (1, "a"), (2, 7)])
        self.assertEqual(self.log.known("town"), [(1, 5), (3, 5), ("x", 5)])
        self.assertEqual(self.log.known("flag"), [])

    def test_known_of_no_table(self):
        for table in ["no", "out", "", None, True, 1, (), ["road"], ("road",), {}, [[]]]:
            with self.assertRaises(UnknownName) as caught:
                self.log.known(table)
            self.assertEqual(caught.exception.name, table)

    def test_known_store(self):
        rows = {"road": [(1, 9), (1, "a"), (2, 7)], "town": [(1, 5), (3, 5), ("x", 5)]}
        self.assertEqual(self.log.known_store(), Store(made(), rows))

    def test_is_complete(self):
        self.assertEqual([self.log.is_complete("out", (at,)) for at in [1, 2, 3]], [False, True, False])
        self.assertEqual([self.log.is_complete("named", (8,)), self.log.is_complete("into", (5,))], [True, False])

    def test_a_whole_service_with_as_many_rows_as_its_cap(self):
        schema = Schema({"town": 2}, {"town": (0,)}, {"named": ("town", (0,), 1), "exact": ("town", (0, 1), 1)})
        log = Log(schema)
        log.note("named", (1,), [(1, 2)])
        log.note("exact", (3, 4), [(3, 4)])
        self.assertIs(log.is_complete("named", (1,)), True)
        self.assertIs(log.is_complete("exact", (3, 4)), True)

    def test_things_that_are_no_noted_call(self):
        self.noted("flags", (), [])
        things = [("out", (3,)), ("out", (True,)), ("out", ()), ("out", (1, 1)), ("roads", ()), ("no", (1,)), ("out", 1),
                  ("out", [1]), ("out", None), ("out", ([1],)), (["out"], (1,)), (None, (1,)), (True, True), ("flags", []),
                  ((), ()), ("out", ({},)), ({}, {}), ("Out", (1,))]
        for service, given in things:
            self.assertIs(self.log.is_complete(service, given), False, (service, given))
            self.assertIs((service, given) in self.log, False, (service, given))
        for thing in [None, True, 1, "out", (), ("out",), ("out", (1,), []), ["out", (1,)], [], {}, "ab", {"out": (1,)}]:
            self.assertIs(thing in self.log, False, thing)

    def test_true_is_not_1(self):
        self.assertIs(("out", (1,)) in self.log, True)
        self.assertIs(("out", (True,)) in self.log, False)
        self.noted("out", (0,), [])
        self.assertIs(self.log.is_complete("out", (0,)), True)
        self.assertIs(self.log.is_complete("out", (False,)), False)

    def test_in_and_len(self):
        calls = [("out", (1,)), ("out", (2,)), ("into", (5,)), ("named", (8,))]
        for call in calls:
            self.assertIs(call in self.log, True)
        self.assertEqual(len(self.log), 4)

    def test_call_list(self):
        self.noted("out", (1,), [(1, "a"), (1, 9)])
        self.noted("flags", (), [(1,)])
        self.assertEqual(self.log.call_list(), [
            ("out", (1,), [(1, 9), (1, "a")]), ("out", (2,), [(2, 7)]), ("into", (5,), [(1, 5), (3, 5), ("x", 5)]),
            ("named", (8,), []), ("flags", (), [(1,)])])


class OwnError(BaseException):
    """An error that is no Exception."""


class TrialTest(LogCase):
    def setUp(self):
        super().setUp()
        self.noted("out", (1,), [(1, 1)])
        self.before = state(self.log)

    def tearDown(self):
        self.assertEqual(state(self.log), self.before)

    def test_no_note(self):
        for told in [None, 7, [1], self.log]:
            self.assertIs(self.log.trial([], lambda log: told), told)

    def test_some_notes(self):
        def deed(log):
            self.assertIs(log, self.log)
            return len(log), log.known("road"), log.call_list(), ("out", (2,)) in log, log.is_complete("flags", ())

        notes = [("out", (2,), [(2, 2), (2, 1)]), ("flags", (), [])]
        calls = [("out", (1,), [(1, 1)]), ("out", (2,), [(2, 1), (2, 2)]), ("flags", (), [])]
        self.assertEqual(self.log.trial(notes, deed), (3, [(1, 1), (2, 1), (2, 2)], calls, True, True))

    def test_a_note_that_is_refused(self):
        called = []
        good = ("out", (2,), [(2, 2)])
        for bad, error in [(("no", (), []), InvalidNote), (("out", (1,), []), Contradiction),
                           (("roads", (), [(at, 0) for at in range(301)] + [(1, 1), (2, 2)]), Contradiction),
                           (("out", (2,), [(2, 3)]), Contradiction)]:
            with self.assertRaises(error):
                self.log.trial([good, bad, good], called.append)
            self.assertEqual(state(self.log), self.before)
        self.assertEqual(called, [])

    def test_a_limit_in_a_trial(self):
        with self.assertRaises(LimitExceeded):
            self.log.trial([("free", (1,), [(at, 1) for at in range(1, 300)]), ("into", (1,), [(1, 1), (2, 1)])], len)

    def test_notes_are_noted_in_their_order(self):
        notes = [("out", (2,), []), ("free", (2,), [(2, 2)])]
        with self.assertRaises(Contradiction) as caught:
            self.log.trial(notes, len)
        self.assertEqual(caught.exception.word, "new")
        with self.assertRaises(Contradiction) as caught:
            self.log.trial(notes[::-1], len)
        self.assertEqual(caught.exception.word, "missing")

    def test_a_deed_that_notes(self):
        def deed(log):
            log.note("out", (3,), [(3, 3)])
            log.note("flags", (), [(9,)])
            return log.known("flag"), len(log)

        self.assertEqual(self.log.trial([("out", (2,), [])], deed), ([(9,)], 4))

    def test_a_deed_whose_note_is_refused(self):
        def deed(log):
            log.note("out", (3,), [(3, 3)])
            log.note("out", (3,), [])

        with self.assertRaises(Contradiction):
            self.log.trial([], deed)

    def test_errors_of_any_class(self):
        for error in [InvalidStore("road", 3), KeyError("a"), RuntimeError(), OwnError(), KeyboardInterrupt(),
                      StopIteration(4), SystemExit(1)]:
            called = []

            def deed(log):
                called.append(log)
                log.note("out", (5,), [(5, 5)])
                raise error

            with self.assertRaises(type(error)) as caught:
                self.log.trial([("out", (4,), [])], deed)
            self.assertIs(caught.exception, error)
            self.assertEqual(called, [self.log])
            self.assertEqual(state(self.log), self.before)

    def test_a_trial_inside_another_one(self):
        def inner(log):
            log.note("flags", (), [(1,)])
            return log.call_list()

        def outer(log):
            log.note("out", (3,), [])
            here = state(log)
            found = log.trial([("out", (4,), [(4, 4)])], inner)
            self.assertEqual(state(log), here)
            log.note("flags", (), [(2,)])
            return found, log.call_list()

        first, second = self.log.trial([("out", (2,), [])], outer)
        self.assertEqual([call[:2] for call in first],
                         [("out", (1,)), ("out", (2,)), ("out", (3,)), ("out", (4,)), ("flags", ())])
        self.assertEqual(second[-1], ("flags", (), [(2,)]))
        self.assertEqual(len(second), 4)

    def test_an_error_inside_of_two(self):
        def outer(log):
            here = state(log)
            with self.assertRaises(OwnError):
                log.trial([("out", (3,), [])], inner)
            self.assertEqual(state(log), here)
            log.note("flags", (), [])
            raise KeyError(2)

        def inner(log):
            log.note("flags", (), [(1,)])
            raise OwnError()

        with self.assertRaises(KeyError):
            self.log.trial([], outer)

    def test_what_the_log_lets_afterwards(self):
        self.log.trial([("roads", (), [(1, 1)]), ("flags", (), [])], len)
        self.log.note("out", (2,), [(2, 2)])
        self.log.note("flags", (), [(1,)])
        self.assertEqual(len(self.log), 3)
        self.before = state(self.log)

    def test_the_deed_is_called_once(self):
        called = []
        self.log.trial([], called.append)
        self.assertEqual(called, [self.log])

    def test_the_notes_are_not_modified(self):
        notes = [("out", (2,), [(2, 2), (2, 1)])]
        self.log.trial(notes, lambda log: notes[0][2].clear())
        self.assertEqual(notes, [("out", (2,), [])])
        notes = [("out", (2,), [(2, 2), (2, 1)])]
        self.log.trial(notes, len)
        self.assertEqual(notes, [("out", (2,), [(2, 2), (2, 1)])])

    def test_changes_to_the_notes_inside(self):
        notes = [("out", (2,), [(2, 2), (2, 1)])]

        def deed(log):
            notes[0][2].clear()
            return log.call_list()[-1]

        self.assertEqual(self.log.trial(notes, deed), ("out", (2,), [(2, 1), (2, 2)]))

    def test_a_store_and_a_list_that_leave_the_trial(self):
        store, calls = self.log.trial([("out", (2,), [(2, 2)])], lambda log: (log.known_store(), log.call_list()))
        self.assertEqual((len(store), len(calls)), (2, 2))


class SharingTest(LogCase):
    """Points 2 and 78."""

    def test_later_changes_to_rows(self):
        rows = [(1, 2), (1, 1)]
        self.noted("out", (1,), rows)
        self.assertEqual(rows, [(1, 2), (1, 1)])
        rows.clear()
        self.assertEqual(self.log.call_list(), [("out", (1,), [(1, 1), (1, 2)])])

    def test_changes_to_what_is_returned(self):
        self.noted("out", (1,), [(1, 2), (1, 1)])
        before = state(self.log)
        self.log.known("road").clear()
        self.log.call_list()[0][2].clear()
        self.log.call_list().clear()
        self.log.known_store()["road"].clear()
        self.assertEqual(state(self.log), before)

    def test_a_store_does_not_grow_with_the_log(self):
        self.noted("out", (1,), [(1, 2), (1, 1)])
        store, known, calls = self.log.known_store(), self.log.known("road"), self.log.call_list()
        self.noted("out", (2,), [(2, 2)])
        self.assertEqual((len(store), len(known), len(calls)), (2, 2, 1))

    def test_two_logs_share_nothing(self):
        schema = made()
        one, other = Log(schema), Log(schema)
        one.note("out", (1,), [(1, 1)])
        self.assertEqual((len(other), other.known("road")), (0, []))
        other.note("out", (1,), [])
        self.assertEqual(one.known("road"), [(1, 1)])

    def test_asking_changes_nothing(self):
        self.noted("out", (1,), [(1, 1)])
        before = state(self.log)
        self.log.is_complete("out", (9,))
        self.log.is_complete("no", [])
        with self.assertRaises(UnknownName):
            self.log.known("no")
        self.assertEqual(state(self.log), before)


class InterfaceTest(unittest.TestCase):
    def test_names_and_arguments(self):
        arguments = {"__init__": ["schema"], "note": ["service", "given", "rows"], "known": ["table"], "known_store": [],
                     "is_complete": ["service", "given"], "call_list": [], "trial": ["notes", "deed"],
                     "__contains__": ["call"], "__len__": []}
        for name, expected in arguments.items():
            self.assertEqual(list(inspect.signature(vars(Log)[name]).parameters), ["self", *expected])
        self.assertEqual(Log.__module__, "cappedcalls.logs")
        self.assertIn("schema", vars(Log(made())))


if __name__ == "__main__":
    unittest.main()
