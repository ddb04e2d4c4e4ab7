"""Questions: what a store answers by its tables, without any service."""

from cappedcalls.errors import InvalidQuestion, LimitExceeded, WidthMismatch
from cappedcalls.matching import matched_heads
from cappedcalls.schemas import check_same
from cappedcalls.terms import atom_variables, is_term, renumbered, term_variables, united
from cappedcalls.values import is_plain_int, sorted_rows

MOST_WIDTH = 12
MOST_PARTS = 4000
MOST_ATOMS = 5


def _is_atom(thing):
    return isinstance(thing, tuple) and len(thing) == 2 and isinstance(thing[1], tuple)


def _has_form(part):
    if not isinstance(part, tuple) or len(part) != 2:
        return False
    head, atoms = part
    if not isinstance(head, tuple) or not isinstance(atoms, list) or len(atoms) > MOST_ATOMS:
        return False
    return all([_is_atom(atom) for atom in atoms])


def _are_terms(terms, many):
    return len(terms) == many and all([is_term(term) for term in terms])


def _wrong_part(tables, width, part):
    """Return the first word of point 41 that holds for a part, or None."""
    if not _has_form(part):
        return "form"
    head, atoms = part
    if not _are_terms(head, width):
        return "head"
    # The first thing of an atom may not be fit to be looked up in a dict.
    if not all([isinstance(name, str) and name in tables for name, _ in atoms]):
        return "table"
    if not all([_are_terms(terms, tables[name]) for name, terms in atoms]):
        return "terms"
    bound = atom_variables(atoms)
    return None if all([variable in bound for variable in term_variables(head)]) else "unsafe"


def _check_question(schema, width, parts):
    if not is_plain_int(width) or not 0 <= width <= MOST_WIDTH:
        raise InvalidQuestion("width", -1)
    if not isinstance(parts, list) or len(parts) > MOST_PARTS:
        raise InvalidQuestion("parts", -1)
    tables = schema.tables
    for at, part in enumerate(parts):
        wrong = _wrong_part(tables, width, part)
        if wrong is not None:
            raise InvalidQuestion(wrong, at)


def check_same_width(one, other):
    """Raise SchemaMismatch or WidthMismatch if two questions or programs cannot be compared."""
    check_same(one.schema, other.schema)
    if one.width != other.width:
        raise WidthMismatch()


def _check_both(one, other):
    if len(one) * len(other) > MOST_PARTS:
        raise LimitExceeded(MOST_PARTS)
    if any([len(atoms) + len(more) > MOST_ATOMS for _, atoms in one for _, more in other]):
        raise LimitExceeded(MOST_ATOMS)


def _met(one, other):
    """Return a list of the part whose answers are those of both parts, or no part if there are none."""
    head, atoms = renumbered(one, 0)
    more_head, more_atoms = renumbered(other, len(atom_variables(atoms)))
    return united((head, atoms + more_atoms), list(zip(head, more_head)))


class Question:
    """Parts with heads of one width over the tables of a schema. It never changes."""

    def __init__(self, schema, width, parts):
        _check_question(schema, width, parts)
        self.schema = schema
        self.width = width
        self._parts = [(head, list(atoms)) for head, atoms in parts]

    def part_list(self):
        """Return the parts, in their order."""
        return [(head, list(atoms)) for head, atoms in self._parts]

    def __or__(self, other):
        check_same_width(self, other)
        return Question(self.schema, self.width, self.part_list() + other.part_list())

    def __and__(self, other):
        check_same_width(self, other)
        ours = self.part_list()
        theirs = other.part_list()
        _check_both(ours, theirs)
        met = [part for one in ours for two in theirs for part in _met(one, two)]
        return Question(self.schema, self.width, met)


def answers_of(question, store):
    """Return the answers of a question in a store, sorted."""
    check_same(question.schema, store.schema)
    rows = {table: store[table] for table in store.schema.table_names()}
    return sorted_rows([head for part in question.part_list() for head in matched_heads(part, rows)])
