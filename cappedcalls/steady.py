"""Which programs are steady: whether an outcome can depend on the rows that services pick."""

from cappedcalls.answers import Answers
from cappedcalls.errors import InvalidChoice
from cappedcalls.hiding import Hiding
from cappedcalls.questions import Question
from cappedcalls.runs import outcome
from cappedcalls.stores import Store
from cappedcalls.unfolding import full_parts, unfolded


def _read_as_tables(part, schema):
    head, atoms = part
    different = {(schema.service_of(service)[0], terms): True for service, terms in atoms}
    return head, list(different)


def judged(program):
    """Return the question of a steady program and None, or None and the Hiding that shows that it is not steady."""
    schema = program.schema
    parts = unfolded(program)
    full = full_parts(program)
    for part in full:
        hiding = Hiding(program, part)
        if not hiding.shows_head(parts):
            return None, hiding
    return Question(schema, program.width, [_read_as_tables(part, schema) for part in full]), None


def steady(program):
    """Return the question that a steady program answers, or what shows that it is not steady."""
    question, hiding = judged(program)
    if question is None:
        return "unsteady", hiding.made_store(), hiding.helping, hiding.hiding
    return "steady", question


def is_steady(program):
    """Return True if a program is steady."""
    return steady(program)[0] == "steady"


def is_steady_with(program, services):
    """Return True if a program is steady where these services have no cap."""
    return is_steady(program.under(program.schema.uncapped(services)))


def _has_form(paper):
    if not isinstance(paper, tuple) or len(paper) != 4 or paper[0] != "unsteady":
        return False
    return isinstance(paper[1], Store) and isinstance(paper[2], dict) and isinstance(paper[3], dict)


def is_parting(program, paper):
    """Return True if a paper shows that a program is not steady."""
    if not _has_form(paper) or paper[1].schema != program.schema:
        return False
    _, store, one, other = paper
    try:
        first = Answers(store, one)
        second = Answers(store, other)
    except InvalidChoice:
        return False
    return outcome(program, first) != outcome(program, second)
