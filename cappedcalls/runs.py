"""The run of a program over answers.

Whatever gives the answers needs only a schema and a call: an object of
Answers, or any other one that answers the calls of its schema.
"""

from cappedcalls.errors import LimitExceeded
from cappedcalls.programs import item_values
from cappedcalls.schemas import check_same
from cappedcalls.values import sorted_rows

MOST_TUPLES = 5000


def _check_many(many):
    if many > MOST_TUPLES:
        raise LimitExceeded(MOST_TUPLES)


def _both(step, found):
    rows = sorted_rows(found[step[2]] + found[step[3]])
    _check_many(len(rows))
    return rows


def _pair(step, found):
    one, other = found[step[2]], found[step[3]]
    # Counted before it is made: it could be far too large to be made.
    _check_many(len(one) * len(other))
    return [row + more for row in one for more in other]


def _where(step, found):
    _, _, origin, index, item = step
    return [row for row in found[origin] if item_values((index,), row) == item_values((item,), row)]


def _take(step, found):
    return sorted_rows([item_values(step[3], row) for row in found[step[2]]])


def _make_calls(calls, answers, made):
    for call in calls:
        if call not in made:
            made[call] = answers(call[0], call[1])


def _call(step, found, answers, made):
    _, _, origin, service, items = step
    calls = [(service, item_values(items, row)) for row in found[origin]]
    _make_calls(calls, answers, made)
    _check_many(sum([len(made[call]) for call in calls]))
    return sorted_rows([row + more for row, call in zip(found[origin], calls) for more in made[call]])


_RULES = {"both": _both, "pair": _pair, "where": _where, "take": _take}


def _run(program, answers):
    """Return the relations by the names of their steps, and the answers by their calls."""
    check_same(program.schema, answers.schema)
    found = {}
    made = {}
    for step in program.step_list():
        if step[0] == "start":
            found[step[1]] = [()]
        elif step[0] == "call":
            found[step[1]] = _call(step, found, answers, made)
        else:
            rule = _RULES[step[0]]
            found[step[1]] = rule(step, found)
    return found, made


def relations(program, answers):
    """Return a dict from the name of each step to the tuples of its relation, sorted."""
    found, _ = _run(program, answers)
    return found


def outcome(program, answers):
    """Return the tuples of the last step, sorted."""
    found, _ = _run(program, answers)
    last = program.step_list()[-1]
    return found[last[1]]


def calls_made(program, answers):
    """Return the different calls of the run, in the order in which they are made."""
    _, made = _run(program, answers)
    return list(made)
