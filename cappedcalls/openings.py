"""What is known after a log: what is sure, what may be, and what may still come."""

from cappedcalls.beyond import Beyond
from cappedcalls.logs import check_call
from cappedcalls.matching import first_match, match_of
from cappedcalls.questions import Question, answers_of
from cappedcalls.schemas import check_same
from cappedcalls.terms import placed, united
from cappedcalls.values import are_values, is_plain_int


def is_possible(log, store):
    """Return True if a store has all known rows, and no other rows that fit complete calls."""
    check_same(log.schema, store.schema)
    if not log.known_store().is_part_of(store):
        return False
    # All known rows that fit a complete call are among its rows.
    return all([store.fitting(service, given) == rows for service, given, rows in log.call_list()
                if log.is_complete(service, given)])


def sure(log, question):
    """Return the answers of a question in every possible store, sorted."""
    check_same(log.schema, question.schema)
    return answers_of(question, log.known_store())


def reason(log, question, row):
    """Return an index of a part and known rows that make a row an answer, or None if it is not sure."""
    check_same(log.schema, question.schema)
    if not are_values(row, question.width):
        return None
    known = {table: log.known(table) for table in log.schema.table_names()}
    for at, part in enumerate(question.part_list()):
        places = first_match(part, row, known)
        if places is not None:
            return at, [placed(terms, places) for _, terms in part[1]]
    return None


def _are_known(store, atoms, rows):
    """Return True if the rows are a list of known rows, one for each atom, of its table."""
    if not isinstance(rows, list) or len(rows) != len(atoms):
        return False
    return all([are_values(row, len(terms)) and (table, row) in store for row, (table, terms) in zip(rows, atoms)])


def is_reason(log, question, row, told):
    """Return True if an index and a list of rows tell why a row is a sure answer."""
    check_same(log.schema, question.schema)
    if not are_values(row, question.width) or not isinstance(told, tuple) or len(told) != 2:
        return False
    parts = question.part_list()
    at, rows = told
    if not is_plain_int(at) or not 0 <= at < len(parts):
        return False
    head, atoms = parts[at]
    if not _are_known(log.known_store(), atoms, rows):
        return False
    wanted = [*head, *[term for _, terms in atoms for term in terms]]
    return match_of(wanted, [*row, *[value for known in rows for value in known]]) is not None


def may_be(log, question, row):
    """Return a possible store in which a row is an answer, or None if there is none."""
    if reason(log, question, row) is not None:
        return log.known_store()
    if not are_values(row, question.width):
        return None
    beyond = Beyond(log)
    for head, atoms in question.part_list():
        for asked in united((head, atoms), list(zip(head, row))):
            part = beyond.new_part(asked, {})
            if part is not None:
                return beyond.with_new_rows(part, question)[0]
    return None


def opening(log, question):
    """Return a possible store and an answer in it that is not sure, or None if there is none."""
    check_same(log.schema, question.schema)
    beyond = Beyond(log)
    # Where no atom can be a new row, there may be far more heads than are worth a look.
    parts = [part for part in question.part_list() if beyond.new_part(((), part[1]), {}) is not None]
    known = {row: True for row in answers_of(question, beyond.store)} if parts else {}
    for whole in parts:
        part = beyond.new_part(whole, known)
        if part is not None:
            return beyond.with_new_rows(part, question)
    return None


def brings(log, service, given):
    """Return True if some possible store has a row that fits a call and is not known."""
    check_call(log.schema, service, given)
    table, columns, _ = log.schema.service_of(service)
    values = dict(zip(columns, given))
    terms = tuple([values.get(at, (at,)) for at in range(log.schema.width_of(table))])
    return opening(log, Question(log.schema, len(terms), [(terms, [(table, terms)])])) is not None
