"""Points 2 and 72 to 79: the desk."""

import inspect
import random
import unittest

from cappedcalls.answers import Answers
from cappedcalls.desk import Desk
from cappedcalls.errors import (InvalidStore, LimitExceeded, NoAnswers, NotNoted, NothingLeft, SchemaMismatch, Unsteady,
                                UnknownName)
from cappedcalls.logs import Log
from cappedcalls.programs import Program
from cappedcalls.replays import Replay
from cappedcalls.runs import outcome
from cappedcalls.schemas import Schema
from cappedcalls.steady import is_steady
from cappedcalls.stores import Store
from cappedcalls.tells import alike
from makers import random_program, random_schema

START = ("start", "s")
NO_NAMES = ["", "A", "abcdefghi", "a1", "a b", "\u00e4", 1, 0, None, True, False, (), ("a",), ["a"], [], {}, {"a": 1}, b"a"]


def made(cap=2):
    return Schema({"road": 2}, {}, {"out": ("road", (0,), cap), "roads": ("road", (), None), "into": ("road", (1,), None)})


def taking(value, schema=None):
    return Program(schema or made(), [START, ("take", "t", "s", ((value,),))])


def calling(*steps, schema=None):
    return Program(schema or made(), [START, *steps])


ROADS = ("call", "a", "s", "roads", ())
OUT = ("call", "a", "s", "out", ((1,),))


def names_of(many):
    return ["abcdefgh"[at // 8] + "abcdefgh"[at % 8] for at in range(many)]


def state(desk):
    """Return all that can be seen of a desk; what can be undone and redone is tried out and made good again."""
    seen = [(desk.answers, [(name, desk[name]) for name in desk.names()], len(desk))]
    undone, redone = [], []
    while True:
        try:
            undone.append((desk.undo(), desk.names(), [id(desk[name]) for name in desk.names()]))
        except NothingLeft:
            break
    for _ in undone:
        desk.redo()
    while True:
        try:
            redone.append((desk.redo(), desk.names(), [id(desk[name]) for name in desk.names()]))
        except NothingLeft:
            break
    for _ in redone:
        desk.undo()
    return seen, undone, redone


class DeskCase(unittest.TestCase):
    def setUp(self):
        self.desk = Desk(made())

    def refused(self, error, call, **fields):
        """Check that a call raises this error with these fields, and that the desk does not change."""
        before = state(self.desk)
        with self.assertRaises(error) as caught:
            call()
        self.assertIs(type(caught.exception), error)
        self.assertEqual(vars(caught.exception), fields)
        self.assertEqual(state(self.desk), before)

    def put(self, name, program):
        self.desk[name] = program


class PuttingTest(DeskCase):
    def test_an_empty_desk(self):
        self.assertEqual(self.desk.schema, made())
        self.assertEqual((len(self.desk), self.desk.names(), self.desk.groups(), self.desk.answers), (0, [], [], None))

    def test_put_and_read(self):
        one, other = taking(1), taking(2)
        self.put("b", one)
        self.put("a", other)
        self.assertIs(self.desk["b"], one)
        self.assertIs(self.desk["a"], other)
        self.assertEqual((self.desk.names(), len(self.desk)), (["a", "b"], 2))
        self.assertIs("a" in self.desk, True)

    def test_a_name_twice(self):
        self.put("a", taking(1))
        self.put("a", taking(2))
        self.assertEqual((self.desk["a"], len(self.desk)), (taking(2), 1))

    def test_names_that_are_no_words(self):
        self.put("a", taking(1))
        for name in NO_NAMES:
            self.refused(UnknownName, lambda: self.put(name, taking(1)), name=name)
            self.refused(UnknownName, lambda: self.desk[name], name=name)
            self.refused(UnknownName, lambda: self.desk.drop(name), name=name)
            self.refused(UnknownName, lambda: self.desk(name), name=name)
            self.assertIs(name in self.desk, False)
        self.put("abcdefgh", taking(1))

    def test_names_under_which_nothing_stands(self):
        self.put("a", taking(1))
        for name in ["b", "aa", "s"]:
            self.refused(UnknownName, lambda: self.desk[name], name=name)
            self.refused(UnknownName, lambda: self.desk.drop(name), name=name)
            self.refused(UnknownName, lambda: self.desk(name), name=name)
            self.assertIs(name in self.desk, False)

    def test_in_for_any_value(self):
        self.put("a", taking(1))
        for thing in [*NO_NAMES, taking(1), self.desk, made(), 10 ** 40]:
            self.assertIs(thing in self.desk, False)

    def test_drop(self):
        self.put("a", taking(1))
        self.put("b", taking(2))
        self.assertIsNone(self.desk.drop("a"))
        self.assertEqual((self.desk.names(), len(self.desk), "a" in self.desk), (["b"], 1, False))
        self.refused(UnknownName, lambda: self.desk.drop("a"), name="a")
        self.put("a", taking(3))
        self.assertEqual(self.desk["a"], taking(3))

    def test_schemas(self):
        self.put("a", taking(1))
        for name in ["a", "b"]:
            self.refused(SchemaMismatch, lambda: self.put(name, taking(1, made(3))))
        self.put("b", taking(1, made()))

    def test_order_of_the_errors(self):
        for name in names_of(40):
            self.put(name, taking(1))
        self.refused(UnknownName, lambda: self.put("A", taking(1, made(3))), name="A")
        self.refused(SchemaMismatch, lambda: self.put("z", taking(1, made(3))))
        self.refused(LimitExceeded, lambda: self.put("z", taking(1)), limit=40)

    def test_40_and_41_names(self):
        names = names_of(40)
        for name in names:
            self.put(name, taking(1))
        self.refused(LimitExceeded, lambda: self.put("z", taking(1)), limit=40)
        self.put(names[7], taking(2))
        self.assertEqual((len(self.desk), self.desk[names[7]]), (40, taking(2)))
        self.desk.drop(names[3])
        self.put("z", taking(1))
        self.refused(LimitExceeded, lambda: self.put(names[3], taking(1)), limit=40)

    def test_it_is_not_iterated_over(self):
        with self.assertRaises(TypeError):
            list(self.desk)


class UndoTest(DeskCase):
    def test_nothing_left(self):
        self.refused(NothingLeft, self.desk.undo, word="undo")
        self.refused(NothingLeft, self.desk.redo, word="redo")
        self.put("a", taking(1))
        self.refused(NothingLeft, self.desk.redo, word="redo")
        self.desk.undo()
        self.refused(NothingLeft, self.desk.undo, word="undo")

    def test_a_put(self):
        self.put("a", taking(1))
        self.assertEqual(self.desk.undo(), "a")
        self.assertEqual((len(self.desk), "a" in self.desk), (0, False))
        self.assertEqual(self.desk.redo(), "a")
        self.assertEqual(self.desk["a"], taking(1))

    def test_a_put_over_another_program(self):
        self.put("a", taking(1))
        self.put("a", taking(2))
        self.assertEqual((self.desk.undo(), self.desk["a"]), ("a", taking(1)))
        self.assertEqual((self.desk.redo(), self.desk["a"]), ("a", taking(2)))
        self.assertEqual([self.desk.undo(), self.desk.undo()], ["a", "a"])
        self.assertEqual(len(self.desk), 0)

    def test_a_drop(self):
        self.put("a", taking(1))
        self.put("b", taking(2))
        self.desk.drop("a")
        self.assertEqual((self.desk.undo(), self.desk.names(), self.desk["a"]), ("a", ["a", "b"], taking(1)))
        self.assertEqual((self.desk.redo(), self.desk.names()), ("a", ["b"]))

    def test_a_put_of_the_program_that_stands(self):
        one = taking(1)
        self.put("a", one)
        self.put("a", one)
        self.assertEqual((self.desk.undo(), self.desk["a"]), ("a", one))
        self.assertEqual((self.desk.undo(), len(self.desk)), ("a", 0))
        self.assertEqual([self.desk.redo(), self.desk.redo()], ["a", "a"])
        self.refused(NothingLeft, self.desk.redo, word="redo")

    def test_a_new_change_forgets_what_was_taken_back(self):
        for change in [lambda: self.put("c", taking(3)), lambda: self.desk.drop("a"),
                       lambda: self.put("a", self.desk["a"])]:
            self.setUp()
            self.put("a", taking(1))
            self.put("b", taking(2))
            self.desk.undo()
            change()
            self.refused(NothingLeft, self.desk.redo, word="redo")
            self.desk.undo()
            self.assertEqual(self.desk.names(), ["a"])

    def test_errors_forget_nothing(self):
        self.put("a", taking(1))
        self.put("b", taking(2))
        self.desk.undo()
        for call in [lambda: self.put("A", taking(1)), lambda: self.put("a", taking(1, made(3))),
                     lambda: self.desk.drop("z"), lambda: self.desk["z"]]:
            with self.assertRaises(Exception):
                call()
        self.assertEqual((self.desk.redo(), self.desk.undo(), self.desk.undo()), ("b", "b", "a"))

    def test_many_changes(self):
        for at in range(1000):
            self.put("a", taking(at))
        for at in range(998, -1, -1):
            self.assertEqual((self.desk.undo(), self.desk["a"]), ("a", taking(at)))
        self.assertEqual((self.desk.undo(), len(self.desk)), ("a", 0))
        for at in range(1000):
            self.assertEqual((self.desk.redo(), self.desk["a"]), ("a", taking(at)))

    def test_at_the_limit(self):
        for name in names_of(40):
            self.put(name, taking(1))
        self.desk.drop("aa")
        self.put("z", taking(1))
        self.assertEqual([self.desk.undo(), self.desk.undo()], ["z", "aa"])
        self.assertEqual((len(self.desk), "z" in self.desk), (40, False))
        self.assertEqual([self.desk.redo(), self.desk.redo()], ["aa", "z"])
        self.assertEqual((len(self.desk), "aa" in self.desk), (40, False))

    def test_random_changes(self):
        generator = random.Random(73)
        for _ in range(40):
            self.setUp()
            shots, at = [{}], 0
            names = []
            for _ in range(40):
                step = generator.choice(["put", "put", "drop", "undo", "redo"])
                name = generator.choice("abc")
                if step == "put" or (step == "drop" and name in self.desk):
                    now = dict(shots[at])
                    if step == "put":
                        now[name] = taking(generator.randrange(3))
                        self.put(name, now[name])
                    else:
                        del now[name]
                        self.desk.drop(name)
                    shots, names, at = [*shots[:at + 1], now], [*names[:at], name], at + 1
                elif step == "undo" and at > 0:
                    at -= 1
                    self.assertEqual(self.desk.undo(), names[at])
                elif step == "redo" and at < len(names):
                    self.assertEqual(self.desk.redo(), names[at])
                    at += 1
                elif step in ("undo", "redo"):
                    self.refused(NothingLeft, getattr(self.desk, step), word=step)
                self.assertEqual({name: self.desk[name] for name in self.desk.names()}, shots[at])


class AnswersTest(DeskCase):
    def setUp(self):
        super().setUp()
        self.store = Store(made(), {"road": [(1, 2), (1, 3), (1, 4)]})
        self.log = Log(made())

    def test_use(self):
        for answers in [Answers(self.store), Replay(self.log), None, Answers(self.store)]:
            self.assertIsNone(self.desk.use(answers))
            self.assertIs(self.desk.answers, answers)

    def test_another_schema(self):
        answers = Answers(self.store)
        for used in [None, answers]:
            self.desk.use(used)
            for bad in [Answers(Store(made(3), {})), Replay(Log(made(3)))]:
                self.refused(SchemaMismatch, lambda: self.desk.use(bad))
                self.assertIs(self.desk.answers, used)

    def test_use_is_no_change(self):
        answers = Answers(self.store)
        self.desk.use(answers)
        self.refused(NothingLeft, self.desk.undo, word="undo")
        self.put("a", taking(1))
        self.put("b", taking(1))
        self.desk.undo()
        self.desk.use(Replay(self.log))
        self.assertEqual(self.desk.redo(), "b")
        self.desk.use(answers)
        self.assertEqual([self.desk.undo(), self.desk.undo()], ["b", "a"])
        self.assertIs(self.desk.answers, answers)
        self.desk.redo()
        self.assertIs(self.desk.answers, answers)


class CallTest(DeskCase):
    def setUp(self):
        super().setUp()
        self.store = Store(made(), {"road": [(1, 2), (1, 3), (1, 4)]})
        self.put("ends", calling(OUT, ("take", "t", "a", (1,))))
        self.put("one", taking(1))

    def test_no_answers(self):
        self.refused(NoAnswers, lambda: self.desk("ends"))
        self.refused(NoAnswers, lambda: self.desk("ends", None))
        self.refused(NoAnswers, lambda: self.desk("one"))
        self.refused(UnknownName, lambda: self.desk("no"), name="no")
        self.refused(UnknownName, lambda: self.desk("no", None), name="no")

    def test_answers_that_are_handed_in(self):
        self.assertEqual(self.desk("ends", Answers(self.store)), [(2,), (3,)])
        choices = {("out", (1,)): [(1, 4), (1, 2)]}
        self.assertEqual(self.desk("ends", Answers(self.store, choices)), [(2,), (4,)])
        self.assertEqual(self.desk("ends", answers=Answers(self.store)), [(2,), (3,)])
        self.assertIsNone(self.desk.answers)
        self.refused(UnknownName, lambda: self.desk("no", Answers(self.store)), name="no")

    def test_answers_that_are_used(self):
        self.desk.use(Answers(self.store))
        self.assertEqual([self.desk("ends"), self.desk("ends", None), self.desk(name="ends")], [[(2,), (3,)]] * 3)
        empty = Answers(Store(made(), {}))
        self.assertEqual(self.desk("ends", empty), [])
        self.assertEqual(self.desk("ends"), [(2,), (3,)])
        self.desk.use(None)
        self.refused(NoAnswers, lambda: self.desk("ends"))

    def test_a_replay(self):
        log = Log(made())
        self.desk.use(Replay(log))
        self.refused(NotNoted, lambda: self.desk("ends"), service="out", given=(1,))
        log.note("out", (1,), [(1, 9)])
        self.assertEqual(self.desk("ends"), [(9,)])

    def test_what_outcome_raises(self):
        self.refused(SchemaMismatch, lambda: self.desk("ends", Answers(Store(made(3), {}))))
        self.put("many", calling(ROADS, ("call", "b", "a", "roads", ())))
        many = Answers(Store(made(), {"road": [(at, at) for at in range(71)]}))
        self.refused(LimitExceeded, lambda: self.desk("many", many), limit=5000)

    def test_the_desk_does_not_change(self):
        self.desk.use(Answers(self.store))
        before = state(self.desk)
        self.desk("ends").clear()
        self.assertEqual(self.desk("ends"), [(2,), (3,)])
        self.assertEqual(state(self.desk), before)


class OwnError(BaseException):
    """An error that is no Exception."""


class KeptTest(DeskCase):
    def setUp(self):
        super().setUp()
        self.answers = Answers(Store(made(), {}))
        self.put("a", taking(1))
        self.put("b", taking(2))
        self.put("c", taking(3))
        self.desk.undo()
        self.desk.use(self.answers)

    def test_what_the_deed_returns(self):
        called = []

        def deed(desk):
            called.append(desk)
            return told

        for told in [None, 7, [1], self.desk, True]:
            self.assertIs(self.desk.kept(deed), told)
        self.assertEqual([one is self.desk for one in called], [True] * 5)

    def test_changes_that_stay(self):
        def deed(desk):
            desk["d"] = taking(4)
            desk.drop("a")
            desk.use(None)

        self.desk.kept(deed)
        self.assertEqual((self.desk.names(), self.desk.answers), (["b", "d"], None))
        self.assertEqual([self.desk.undo() for _ in range(4)], ["a", "d", "b", "a"])

    def test_errors_of_any_class(self):
        for error in [InvalidStore("road", 3), KeyError("a"), RuntimeError(), OwnError(), KeyboardInterrupt(),
                      StopIteration(4), SystemExit(1), GeneratorExit()]:
            before = state(self.desk)
            called = []

            def deed(desk):
                called.append(desk)
                desk["d"] = taking(4)
                desk["a"] = taking(5)
                desk.drop("b")
                desk.use(None)
                raise error

            with self.assertRaises(type(error)) as caught:
                self.desk.kept(deed)
            self.assertIs(caught.exception, error)
            self.assertEqual(called, [self.desk])
            self.assertEqual(state(self.desk), before)
            self.assertIs(self.desk.answers, self.answers)

    def test_undo_and_redo_before_an_error(self):
        def deed(desk):
            for step in steps:
                getattr(desk, step)()
            raise KeyError(1)

        for steps in [["redo"], ["undo"], ["undo", "undo"], ["redo", "undo", "undo"], ["undo", "redo", "redo"],
                      ["undo", "undo", "undo"], ["redo", "redo"]]:
            before = state(self.desk)
            with self.assertRaises((KeyError, NothingLeft)):
                self.desk.kept(deed)
            self.assertEqual(state(self.desk), before, steps)

    def test_undo_and_redo_that_stay(self):
        self.desk.kept(lambda desk: desk.undo())
        self.assertEqual(self.desk.names(), ["a"])
        self.desk.kept(lambda desk: [desk.redo(), desk.redo()])
        self.assertEqual(self.desk.names(), ["a", "b", "c"])

    def test_an_error_of_the_desk_itself(self):
        def deed(desk):
            desk.drop("a")
            desk.drop("a")

        self.refused(UnknownName, lambda: self.desk.kept(deed), name="a")

    def test_an_error_that_the_deed_catches(self):
        def deed(desk):
            desk.drop("a")
            try:
                desk.drop("a")
            except UnknownName:
                desk["d"] = taking(4)

        self.desk.kept(deed)
        self.assertEqual(self.desk.names(), ["b", "d"])

    def test_one_inside_another(self):
        def bad(desk):
            desk["d"] = taking(4)
            desk.use(None)
            desk.undo()
            desk.undo()
            raise OwnError()

        def good(desk):
            desk["e"] = taking(5)
            return "told"

        def outer(desk):
            desk["f"] = taking(6)
            here = state(desk)
            with self.assertRaises(OwnError):
                desk.kept(bad)
            self.assertEqual(state(desk), here)
            self.assertEqual(desk.kept(good), "told")

        self.desk.kept(outer)
        self.assertEqual((self.desk.names(), self.desk.answers), (["a", "b", "e", "f"], self.answers))

    def test_an_error_outside_takes_the_inner_changes_back(self):
        def outer(desk):
            desk.kept(lambda inner: inner.drop("a"))
            self.assertEqual(desk.names(), ["b"])
            raise OwnError()

        before = state(self.desk)
        with self.assertRaises(OwnError):
            self.desk.kept(outer)
        self.assertEqual(state(self.desk), before)

    def test_what_can_be_done_afterwards(self):
        def deed(desk):
            desk.undo()
            desk["z"] = taking(9)
            raise OwnError()

        with self.assertRaises(OwnError):
            self.desk.kept(deed)
        self.assertEqual(self.desk.redo(), "c")
        self.put("d", taking(4))
        self.assertEqual([self.desk.undo() for _ in range(4)], ["d", "c", "b", "a"])


class GroupsTest(DeskCase):
    def test_no_program(self):
        self.assertEqual(self.desk.groups(), [])

    def test_programs_that_are_not_steady(self):
        self.put("a", calling(OUT))
        self.assertEqual(self.desk.groups(), [])
        self.put("b", calling(OUT, ("take", "t", "a", ())))
        self.assertEqual(self.desk.groups(), [["b"]])

    def test_alike_by_different_steps(self):
        self.put("e", calling(ROADS))
        self.put("b", calling(("call", "x", "s", "roads", ()), ("both", "y", "x", "x")))
        self.put("d", calling(ROADS, ("take", "t", "a", (1, 0))))
        self.put("a", calling(ROADS, ("take", "t", "a", (1,))))
        self.put("c", calling(ROADS, ("call", "b", "a", "into", (1,)), ("take", "t", "b", (3,))))
        self.put("f", calling(OUT))
        self.assertEqual(self.desk.groups(), [["a", "c"], ["b", "e"], ["d"]])

    def test_different_widths(self):
        # Neither ever has any tuple.
        nothing = [("take", "t", "s", ((1,),)), ("where", "w", "t", 0, (2,))]
        self.put("b", calling(*nothing))
        self.put("a", calling(*nothing, ("take", "x", "w", ())))
        self.put("c", calling(*nothing, ("take", "x", "w", (0,))))
        self.assertEqual(self.desk.groups(), [["a"], ["b", "c"]])

    def test_random_programs(self):
        generator = random.Random(77)
        for _ in range(12):
            schema = random_schema(generator)
            desk = Desk(schema)
            for name in generator.sample(names_of(40), 12):
                desk[name] = random_program(generator, schema, 4)
            groups = desk.groups()
            self.assertEqual(groups, sorted(sorted(group) for group in groups))
            steady_names = [name for name in desk.names() if is_steady(desk[name])]
            self.assertEqual(sorted(name for group in groups for name in group), steady_names)
            place = {name: at for at, group in enumerate(groups) for name in group}
            for one in steady_names:
                for other in steady_names:
                    same = desk[one].width == desk[other].width and alike(desk[one], desk[other]) is None
                    self.assertIs(place[one] == place[other], same)

    def test_the_desk_does_not_change(self):
        self.put("a", calling(ROADS))
        self.put("b", calling(OUT))
        self.desk.undo()
        before = state(self.desk)
        self.desk.groups()[0].append("z")
        self.desk.groups().clear()
        self.assertEqual(self.desk.groups(), [["a"]])
        self.assertEqual(state(self.desk), before)

    def test_it_raises_no_unsteady(self):
        self.put("a", calling(OUT))
        self.put("b", calling(ROADS))
        try:
            self.assertEqual(self.desk.groups(), [["b"]])
        except Unsteady:
            self.fail("groups raised Unsteady")


class SharingTest(DeskCase):
    """Points 2 and 78."""

    def test_changes_to_names(self):
        self.put("a", taking(1))
        self.desk.names().clear()
        self.assertEqual(self.desk.names(), ["a"])

    def test_two_desks_share_nothing(self):
        schema, answers = made(), Answers(Store(made(), {}))
        one, other = Desk(schema), Desk(schema)
        one["a"] = taking(1)
        one.use(answers)
        self.assertEqual((len(other), other.answers), (0, None))
        with self.assertRaises(NothingLeft):
            other.undo()
        other["a"] = taking(2)
        other.drop("a")
        other.undo()
        self.assertEqual(one["a"], taking(1))
        one.undo()
        self.assertEqual((len(one), other["a"]), (0, taking(2)))

    def test_a_desk_inside_the_deed_of_another_one(self):
        other = Desk(made())

        def deed(desk):
            other["x"] = taking(1)
            desk["y"] = taking(2)
            raise OwnError()

        with self.assertRaises(OwnError):
            self.desk.kept(deed)
        self.assertEqual((self.desk.names(), other.names()), ([], ["x"]))

    def test_the_outcome_is_that_of_runs(self):
        answers = Answers(Store(made(), {"road": [(1, 2)]}))
        self.put("a", calling(ROADS))
        self.assertEqual(self.desk("a", answers), outcome(self.desk["a"], answers))


class InterfaceTest(unittest.TestCase):
    def test_names_and_arguments(self):
        arguments = {"__init__": ["schema"], "__contains__": ["name"], "__getitem__": ["name"],
                     "__setitem__": ["name", "program"], "__len__": [], "names": [], "drop": ["name"], "undo": [],
                     "redo": [], "use": ["answers"], "__call__": ["name", "answers"], "kept": ["deed"], "groups": []}
        for name, expected in arguments.items():
            self.assertEqual(list(inspect.signature(vars(Desk)[name]).parameters), ["self", *expected])
        self.assertIs(inspect.signature(vars(Desk)["__call__"]).parameters["answers"].default, None)
        self.assertIsInstance(vars(Desk)["answers"], property)
        self.assertEqual(Desk.__module__, "cappedcalls.desk")
        self.assertIn("schema", vars(Desk(made())))

    def test_answers_is_not_assigned(self):
        with self.assertRaises(AttributeError):
            Desk(made()).answers = None


if __name__ == "__main__":
    unittest.main()
