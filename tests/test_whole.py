"""What the document promises over the whole package: points 2, 9, 20, 44, 45, 47, 50, 52, 53, 59, 64, 72, 74 and 78."""

import copy
import importlib
import inspect
import unittest

from cappedcalls import errors as errors_module
from cappedcalls.answers import Answers, each_answer
from cappedcalls.desk import Desk
from cappedcalls.errors import CappedError, SchemaMismatch, WidthMismatch
from cappedcalls.logs import Log
from cappedcalls.openings import brings, is_possible, is_reason, may_be, opening, reason, sure
from cappedcalls.programs import Program
from cappedcalls.questions import Question, answers_of
from cappedcalls.reading import read_program, read_question, read_schema, read_store
from cappedcalls.replays import Replay
from cappedcalls.runs import calls_made, outcome, relations
from cappedcalls.schemas import Schema
from cappedcalls.steady import is_parting, is_steady_with, steady
from cappedcalls.stores import Store
from cappedcalls.tells import alike, tells
from cappedcalls.texts import program_lines, question_lines, schema_lines, store_lines
from cappedcalls.uncapped import least_uncapped
from cappedcalls.values import sorted_rows
from cappedcalls.within import is_paper, is_within, least, paper_of, within

START = ("start", "s")
X, Y = (0,), (1,)
INTERFACE = {
    "errors": ["CappedError", "UnknownName", "SchemaMismatch", "WidthMismatch", "LimitExceeded", "InvalidSchema",
               "InvalidStore", "InvalidCall", "InvalidChoice", "InvalidProgram", "InvalidQuestion", "InvalidNote",
               "Contradiction", "Unsteady", "InvalidLine", "NotNoted", "NoAnswers", "NothingLeft"],
    "values": ["is_word", "is_value", "sorted_rows"], "schemas": ["Schema"], "stores": ["Store"],
    "answers": ["each_answer", "Answers"], "programs": ["Program"], "runs": ["relations", "outcome", "calls_made"],
    "steady": ["steady", "is_steady", "is_steady_with", "is_parting"], "uncapped": ["least_uncapped"],
    "questions": ["Question", "answers_of"], "within": ["within", "is_within", "paper_of", "is_paper", "least"],
    "tells": ["tells", "alike"], "logs": ["Log"],
    "openings": ["is_possible", "sure", "reason", "is_reason", "may_be", "opening", "brings"], "replays": ["Replay"],
    "texts": ["schema_lines", "store_lines", "program_lines", "question_lines"],
    "reading": ["read_schema", "read_store", "read_program", "read_question"], "desk": ["Desk"]}


def made(cap=1):
    return Schema({"road": 2, "flag": 1}, {}, {"out": ("road", (0,), cap), "roads": ("road", (), None),
                                               "flags": ("flag", (), None)})


def program_of(width, is_steady=True, schema=None):
    """Return a program of this width, 0 to 2."""
    service, items = ("roads", ()) if is_steady else ("out", ((1,),))
    steps = [START, ("call", "a", "s", service, items), ("take", "t", "a", (1, 1)[:width])]
    if width == 0 and not is_steady:
        steps = [START, ("call", "a", "s", service, items), ("where", "w", "a", 1, (2,)), ("take", "t", "w", ())]
    return Program(schema or made(), steps)


def asked(width, schema=None):
    return Question(schema or made(), width, [((X, Y)[:width], [("road", (X, Y))])])


class InterfaceTest(unittest.TestCase):
    def test_each_thing_is_defined_where_it_is_listed(self):
        for name, things in INTERFACE.items():
            module = importlib.import_module("cappedcalls." + name)
            for thing in things:
                self.assertEqual(getattr(module, thing).__module__, "cappedcalls." + name)
                self.assertEqual(inspect.isclass(getattr(module, thing)), thing[0].isupper())

    def test_neither_mismatch_is_a_kind_of_the_other(self):
        for name in INTERFACE["errors"][1:]:
            self.assertEqual(getattr(errors_module, name).__bases__, (CappedError,))
        self.assertFalse(issubclass(SchemaMismatch, WidthMismatch) or issubclass(WidthMismatch, SchemaMismatch))


class MismatchTest(unittest.TestCase):
    def raises(self, error, *calls):
        for call in calls:
            with self.assertRaises(CappedError) as caught:
                call()
            self.assertIs(type(caught.exception), error)
            self.assertEqual(vars(caught.exception), {})

    def both(self, call, one, other, error):
        self.raises(error, lambda: call(one, other), lambda: call(other, one))

    def test_schemas_of_two_questions(self):
        for width in [0, 1, 2]:
            one, other = asked(1), asked(width, made(2))
            for call in [within, is_within, paper_of, lambda a, b: is_paper(a, b, []), lambda a, b: is_paper(a, b, None),
                         lambda a, b: a | b, lambda a, b: a & b]:
                self.both(call, one, other, SchemaMismatch)

    def test_widths_of_two_questions(self):
        for call in [within, is_within, paper_of, lambda a, b: is_paper(a, b, []), lambda a, b: is_paper(a, b, None),
                     lambda a, b: a | b, lambda a, b: a & b]:
            for one, other in [(asked(0), asked(1)), (asked(2), asked(1)), (asked(1), Question(made(), 12, []))]:
                self.both(call, one, other, WidthMismatch)

    def test_widths_come_before_limits(self):
        many = Question(made(), 1, [((at,), []) for at in range(4000)])
        for call in [lambda a, b: a | b, lambda a, b: a & b]:
            self.both(call, many, Question(made(), 2, [((at, 1), []) for at in range(4000)]), WidthMismatch)
            self.both(call, many, Question(made(2), 2, [((at, 1), []) for at in range(4000)]), SchemaMismatch)

    def test_programs(self):
        for is_steady in [True, False]:
            for width in [0, 1, 2]:
                away = program_of(width, True, made(2)), program_of(width, False, made(2))
                for program in away:
                    self.both(alike, program, program_of(1, is_steady), SchemaMismatch)
                    self.raises(SchemaMismatch, lambda: tells(program, asked(1)))
            for other_steady in [True, False]:
                self.both(alike, program_of(0, is_steady), program_of(1, other_steady), WidthMismatch)
                self.both(alike, program_of(2, is_steady), program_of(1, other_steady), WidthMismatch)
            self.raises(WidthMismatch, lambda: tells(program_of(1, is_steady), asked(2)),
                        lambda: tells(program_of(0, is_steady), asked(1)))

    def test_stores(self):
        one, other = Store(made(), {"flag": [(1,)]}), Store(made(2), {})
        for call in [lambda a, b: a | b, lambda a, b: a.is_part_of(b)]:
            self.both(call, one, other, SchemaMismatch)
        for width in [0, 1, 2]:
            self.raises(SchemaMismatch, lambda: answers_of(asked(width), other))

    def test_runs(self):
        log = Log(made(2))
        for answers in [Answers(Store(made(2), {})), Replay(log)]:
            for is_steady in [True, False]:
                program = program_of(1, is_steady)
                self.raises(SchemaMismatch, lambda: outcome(program, answers), lambda: relations(program, answers),
                            lambda: calls_made(program, answers))

    def test_logs(self):
        log = Log(made(2))
        for width in [0, 1, 2]:
            question = asked(width)
            self.raises(SchemaMismatch, lambda: sure(log, question), lambda: opening(log, question))
            for row in [(), (1,), (1, 2), None, True, [1]]:
                self.raises(SchemaMismatch, lambda: reason(log, question, row), lambda: may_be(log, question, row),
                            lambda: is_reason(log, question, row, (0, [])), lambda: is_reason(log, question, row, None))
        self.raises(SchemaMismatch, lambda: is_possible(log, Store(made(), {})))

    def test_desks(self):
        desk = Desk(made())
        self.raises(SchemaMismatch, lambda: desk.__setitem__("a", program_of(1, True, made(2))),
                    lambda: desk.use(Answers(Store(made(2), {}))), lambda: desk.use(Replay(Log(made(2)))))
        desk["a"] = program_of(1)
        self.raises(SchemaMismatch, lambda: desk("a", Answers(Store(made(2), {}))), lambda: desk("a", Replay(Log(made(2)))))

    def test_schemas_that_are_equal_but_not_the_same(self):
        self.assertIsNone(within(asked(1), asked(1)))
        self.assertIsNone(alike(program_of(1), program_of(1)))
        self.assertEqual(sure(Log(made()), asked(1)), [])
        self.assertEqual(outcome(program_of(1), Answers(Store(made(), {"road": [(1, 2)]}))), [(2,)])


def emptied(thing):
    """Empty a list or a dict, and all lists and dicts that stand in it or in a tuple."""
    if isinstance(thing, (list, tuple)):
        for part in thing:
            emptied(part)
    elif isinstance(thing, dict):
        for key in thing:
            emptied(thing[key])
    if isinstance(thing, (list, dict)):
        thing.clear()


class ListsTest(unittest.TestCase):
    """A later change of a list or a dict that was returned or handed in has no effect."""

    def setUp(self):
        self.schema = made()
        self.store = Store(self.schema, {"road": [(1, 2), (1, 3), (2, 2)], "flag": [(7,)]})
        self.answers = Answers(self.store, {("out", (1,)): [(1, 3)]})
        self.good, self.bad = program_of(1), program_of(1, False)
        self.one = Question(self.schema, 1, [((X,), [("road", (X, Y)), ("flag", (7,))]), ((5,), [])])
        self.log = Log(self.schema)
        self.log.note("out", (1,), [(1, 2)])
        self.log.note("flags", (), [(7,)])
        self.replay = Replay(self.log)
        self.desk = Desk(self.schema)
        self.desk["a"] = self.good
        self.desk["b"] = self.good
        self.desk.use(self.answers)

    def calls(self):
        return {
            "Schema.tables": lambda: self.schema.tables, "Schema.key_columns": lambda: self.schema.key_columns,
            "Schema.services": lambda: self.schema.services, "table_names": self.schema.table_names,
            "service_names": self.schema.service_names, "capped_names": self.schema.capped_names,
            "Store[]": lambda: self.store["road"], "fitting": lambda: self.store.fitting("out", (1,)),
            "each_answer": lambda: list(each_answer(self.store, "out", (1,))), "choices": lambda: self.answers.choices,
            "Answers()": lambda: self.answers("out", (1,)), "Answers() of another call": lambda: self.answers("roads", ()),
            "step_list": self.good.step_list, "relations": lambda: relations(self.good, self.answers),
            "outcome": lambda: outcome(self.good, self.answers), "calls_made": lambda: calls_made(self.good, self.answers),
            "steady": lambda: steady(self.bad)[2:], "least_uncapped": lambda: least_uncapped(self.bad),
            "part_list": self.one.part_list, "answers_of": lambda: answers_of(self.one, self.store),
            "paper_of": lambda: paper_of(self.one, self.one), "least": lambda: least(self.one).part_list(),
            "tells": lambda: tells(self.bad, asked(1))[1], "alike": lambda: alike(self.good, program_of(1))
            or {}, "known": lambda: self.log.known("road"), "call_list": self.log.call_list,
            "sure": lambda: sure(self.log, self.one), "reason": lambda: reason(self.log, self.one, (1,)),
            "Replay()": lambda: self.replay("out", (1,)), "schema_lines": lambda: schema_lines(self.schema),
            "store_lines": lambda: store_lines(self.store), "program_lines": lambda: program_lines(self.good),
            "question_lines": lambda: question_lines(self.one), "names": self.desk.names, "groups": self.desk.groups,
            "Desk()": lambda: self.desk("a"), "known_store": lambda: self.log.known_store()["road"],
            "may_be": lambda: may_be(self.log, self.one, (1,))["road"], "sorted_rows": lambda: sorted_rows([(1,)])}

    def test_what_is_returned(self):
        expected = {name: copy.deepcopy(call()) for name, call in self.calls().items()}
        for name, call in self.calls().items():
            emptied(call())
            for other, again in self.calls().items():
                self.assertEqual(again(), expected[other], (name, other))

    def test_what_is_handed_in(self):
        handed = [{"road": 2, "flag": 1}, {"road": (0,)}, {"out": ("road", (0,), None), "flags": ("flag", (), 1)}]
        schema = Schema(*handed)
        rows, choices = {"road": [(1, 2), (2, 3)], "flag": [(1,), (2,)]}, {("flags", ()): [(2,)]}
        store = Store(schema, rows)
        answers = Answers(store, choices)
        steps = [START, ("call", "a", "s", "flags", ())]
        program = Program(schema, steps)
        parts = [((X,), [("flag", (X,))])]
        question = Question(schema, 1, parts)
        noted = [(2,)]
        log = Log(schema)
        log.note("flags", (), noted)
        things = [handed, rows, choices, steps, parts, noted]
        before = copy.deepcopy(things)
        seen = self.seen(schema, store, answers, program, question, log)
        self.assertEqual(things, before)
        emptied(things)
        self.assertEqual(self.seen(schema, store, answers, program, question, log), seen)

    def seen(self, schema, store, answers, program, question, log):
        return [schema_lines(schema), store_lines(store), answers.choices, program_lines(program), question_lines(question),
                log.call_list(), outcome(program, answers), answers_of(question, store), sure(log, question)]

    def test_lists_that_are_handed_to_functions_are_not_modified(self):
        names, paper, told, notes = ["out"], paper_of(self.one, self.one), (0, [(1, 2), (7,)]), [("out", (2,), [(2, 2)])]
        parting = steady(self.bad)
        lines = [schema_lines(self.schema), store_lines(self.store), program_lines(self.good), question_lines(self.one)]
        rows = [(2,), (1,), (2,)]
        things = [names, paper, told, notes, parting[2:], lines, rows]
        before = copy.deepcopy(things)
        self.schema.uncapped(names)
        is_steady_with(self.bad, names)
        self.assertIs(is_paper(self.one, self.one, paper), True)
        self.assertIs(is_reason(self.log, self.one, (1,), told), True)
        self.log.trial(notes, len)
        self.assertIs(is_parting(self.bad, parting), True)
        read_schema(lines[0])
        for read, thing in zip([read_store, read_program, read_question], lines[1:]):
            read(self.schema, thing)
        sorted_rows(rows)
        self.assertEqual(things, before)

    def test_what_may_change_a_log_and_a_desk(self):
        log, desk = self.log.call_list(), (self.desk.names(), self.desk["a"], self.desk.answers)
        for call in self.calls().values():
            call()
        brings(self.log, "out", (1,))
        opening(self.log, self.one)
        is_possible(self.log, self.store)
        self.assertEqual(self.log.call_list(), log)
        self.assertEqual((self.desk.names(), self.desk["a"], self.desk.answers), desk)
        self.assertEqual(self.desk.undo(), "b")

    def test_stores_questions_programs_and_schemas_never_change(self):
        before = self.seen(self.schema, self.store, self.answers, self.good, self.one, self.log)
        made_from_them = [self.store | self.store, self.one | self.one, self.one & self.one, self.schema.uncapped(["out"]),
                          self.good.under(self.schema.uncapped(["out"])), least(self.one), self.log.known_store()]
        self.assertEqual(len(made_from_them), 7)
        self.assertEqual(self.seen(self.schema, self.store, self.answers, self.good, self.one, self.log), before)


if __name__ == "__main__":
    unittest.main()
