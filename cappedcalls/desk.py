"""Desks: programs under names, with changes that can be taken back."""

from cappedcalls.errors import LimitExceeded, NoAnswers, NothingLeft, UnknownName
from cappedcalls.runs import outcome
from cappedcalls.schemas import check_same
from cappedcalls.tells import question_told
from cappedcalls.values import is_word
from cappedcalls.within import is_within

MOST_NAMES = 40


def _have_equal_answers(one, other):
    return one.width == other.width and is_within(one, other) and is_within(other, one)


class Desk:
    """Programs under names. Putting, drop, undo, redo and use change it."""

    def __init__(self, schema):
        self.schema = schema
        self._programs = {}
        self._answers = None
        # A change is a name with the programs that stood under it before and
        # after it; None where no program stood.
        self._made = []
        self._undone = []

    def __setitem__(self, name, program):
        if not is_word(name):
            raise UnknownName(name)
        check_same(self.schema, program.schema)
        if name not in self._programs and len(self._programs) >= MOST_NAMES:
            raise LimitExceeded(MOST_NAMES)
        self._change(name, program)

    def __getitem__(self, name):
        if name not in self:
            raise UnknownName(name)
        return self._programs[name]

    def __iter__(self):
        raise TypeError("a desk is not iterated over")

    def __contains__(self, name):
        return is_word(name) and name in self._programs

    def __len__(self):
        return len(self._programs)

    def names(self):
        """Return the names under which programs stand, ascending."""
        return sorted(self._programs)

    def drop(self, name):
        """Take away a name."""
        if name not in self:
            raise UnknownName(name)
        self._change(name, None)

    def _change(self, name, program):
        self._made.append((name, self._programs.get(name), program))
        self._undone = []
        self._place(name, program)

    def _place(self, name, program):
        if program is None:
            del self._programs[name]
        else:
            self._programs[name] = program

    def undo(self):
        """Take the last change back, and return its name."""
        if not self._made:
            raise NothingLeft("undo")
        change = self._made.pop()
        self._undone.append(change)
        self._place(change[0], change[1])
        return change[0]

    def redo(self):
        """Make the last change again that was taken back, and return its name."""
        if not self._undone:
            raise NothingLeft("redo")
        change = self._undone.pop()
        self._made.append(change)
        self._place(change[0], change[2])
        return change[0]

    @property
    def answers(self):
        """The answers that are used where none are handed in, or None."""
        return self._answers

    def use(self, answers):
        """Take the answers that are used where none are handed in; None takes them away."""
        if answers is not None:
            check_same(self.schema, answers.schema)
        self._answers = answers

    def __call__(self, name, answers=None):
        program = self[name]
        used = self._answers if answers is None else answers
        if used is None:
            raise NoAnswers()
        return outcome(program, used)

    def kept(self, deed):
        """Return what the deed returns for this desk; if it raises an error, take back all that it did."""
        programs = dict(self._programs)
        answers = self._answers
        made = list(self._made)
        undone = list(self._undone)
        finished = None
        try:
            told = deed(self)
            finished = True
            return told
        finally:
            if finished is None:
                self._programs, self._answers = programs, answers
                self._made, self._undone = made, undone

    def groups(self):
        """Return the names of the steady programs, in lists of those that are alike."""
        found = []
        for name in self.names():
            question = question_told(self._programs[name])
            if question is not None:
                same = [names for one, names in found if _have_equal_answers(one, question)]
                if same:
                    same[0].append(name)
                else:
                    found.append((question, [name]))
        return [names for _, names in found]
