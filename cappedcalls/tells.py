"""Programs compared with questions and with other programs."""

from cappedcalls.errors import Unsteady
from cappedcalls.questions import answers_of, check_same_width
from cappedcalls.steady import judged
from cappedcalls.within import within


def _difference(one, other):
    """Return a store in which two questions have different answers, with no choices, or None."""
    found = within(one, other)
    if found is None:
        found = within(other, one)
    return None if found is None else (found[0], {})


def question_told(program):
    """Return the question of a steady program, or None if the program is not steady."""
    return judged(program)[0]


def tells(program, question):
    """Return None if a question always tells the outcome of a program, or a store and choices for which it does not."""
    check_same_width(program, question)
    own, hiding = judged(program)
    if own is not None:
        return _difference(own, question)
    # By the helping choice the outcome has the head, and by the hiding choice
    # it has not: so one of them is wrong, and neither needs to be run.
    store = hiding.made_store()
    is_answer = hiding.head in answers_of(question, store)
    return store, hiding.hiding if is_answer else hiding.helping


def alike(one, other):
    """Return None if two steady programs always have equal outcomes, or a store and choices for which they have not."""
    check_same_width(one, other)
    first = question_told(one)
    if first is None:
        raise Unsteady("one")
    second = question_told(other)
    if second is None:
        raise Unsteady("other")
    return _difference(first, second)
