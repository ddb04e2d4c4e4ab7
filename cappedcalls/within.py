"""Which questions are within others, papers that show it, and questions without what is needless."""

from cappedcalls.joined import joined_part, joined_places, rows_of
from cappedcalls.matching import first_match, has_match
from cappedcalls.placing import may_be_placed, parts_by_mark, placed_index
from cappedcalls.questions import Question, check_same_width
from cappedcalls.stores import Store
from cappedcalls.terms import is_term, is_variable, part_values, part_variables, placed_part, renumbered
from cappedcalls.values import is_plain_int, spare_numbers


def _shown(part, one, other):
    """Return the store and the row that a part of a question makes."""
    variables = part_variables(part)
    taken = part_values(one.part_list() + other.part_list())
    head, atoms = placed_part(part, dict(zip(variables, spare_numbers(taken, len(variables)))))
    return Store(one.schema, rows_of(atoms, one.schema)), head


def within(one, other):
    """Return None if each answer of one is an answer of other in every store, or a store and a row that tell not."""
    check_same_width(one, other)
    parts = other.part_list()
    by_mark = parts_by_mark(parts)
    for part in one.part_list():
        for joined in joined_part(part, one.schema):
            if placed_index(parts, may_be_placed(by_mark, joined), joined, one.schema) is None:
                return _shown(joined, one, other)
    return None


def is_within(one, other):
    """Return True if each answer of one is an answer of other in every store."""
    return within(one, other) is None


def _entry(part, parts, by_mark, schema):
    """Return the entry of a paper for a part."""
    for joined in joined_part(part, schema):
        head, atoms = joined
        at = placed_index(parts, may_be_placed(by_mark, joined), joined, schema)
        return at, first_match(parts[at], head, rows_of(atoms, schema))
    return ("void",)


def paper_of(one, other):
    """Return a list that shows part by part that one is within other, or None if it is not."""
    if not is_within(one, other):
        return None
    parts = other.part_list()
    by_mark = parts_by_mark(parts)
    return [_entry(part, parts, by_mark, one.schema) for part in one.part_list()]


def _are_places(thing, part):
    """Return True if the thing is a dict from exactly the variables of the part to terms."""
    variables = part_variables(part)
    if not isinstance(thing, dict) or len(thing) != len(variables):
        return False
    # (True,) is equal to (1,), but it is no variable.
    return all([is_variable(key) and key in variables and is_term(thing[key]) for key in thing])


def _has_form(entry, parts):
    if not isinstance(entry, tuple) or len(entry) != 2:
        return False
    at, places = entry
    return is_plain_int(at) and 0 <= at < len(parts) and _are_places(places, parts[at])


def _is_right(entry, part, parts, schema):
    """Return True if an entry of a paper is right for a part."""
    joined = joined_places(part[1], schema)
    if joined is None:
        return entry == ("void",)
    if not _has_form(entry, parts):
        return False
    at, places = entry
    head, atoms = placed_part(part, joined)
    wanted_head, wanted = placed_part(placed_part(parts[at], places), joined)
    return wanted_head == head and all([atom in atoms for atom in wanted])


def is_paper(one, other, paper):
    """Return True if a paper shows part by part that one is within other."""
    check_same_width(one, other)
    own = one.part_list()
    if not isinstance(paper, list) or len(paper) != len(own):
        return False
    parts = other.part_list()
    return all([_is_right(entry, part, parts, one.schema) for entry, part in zip(paper, own)])


def _different_parts(question):
    """Return the parts that are not void, their joined terms made one, without those that are alike."""
    joined = [part for whole in question.part_list() for part in joined_part(whole, question.schema)]
    plain = [renumbered(part, 0) for part in joined]
    different = {(head, tuple(atoms)): True for head, atoms in plain}
    return [(head, list(atoms)) for head, atoms in different]


def _needed_parts(parts, schema):
    """Return the parts without those whose answers other parts have."""
    by_mark = parts_by_mark(parts)
    needless = {}
    for at, part in enumerate(parts):
        others = [other for other in may_be_placed(by_mark, part) if other != at and other not in needless]
        if placed_index(parts, others, part, schema) is not None:
            needless[at] = True
    return [part for at, part in enumerate(parts) if at not in needless]


def _with_needed_atoms(part, schema):
    """Return the part without those atoms that are needless."""
    head, needed = part
    for atom in part[1]:
        fewer = [one for one in needed if one != atom]
        # The head stays as it is: so no variable of it loses its last atom.
        if has_match((head, needed), head, rows_of(fewer, schema)):
            needed = fewer
    return head, needed


def least(question):
    """Return a question with the same answers in every store, from which nothing can be left out."""
    parts = _needed_parts(_different_parts(question), question.schema)
    return Question(question.schema, question.width, [_with_needed_atoms(part, question.schema) for part in parts])
