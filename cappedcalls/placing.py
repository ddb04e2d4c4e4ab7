"""Placing: which parts of a question are mapped into a part.

A question may have thousands of parts. Most of them have some value that does
not stand where it should in a given part, and need not be tried.
"""

from cappedcalls.joined import rows_of
from cappedcalls.matching import has_match
from cappedcalls.terms import renumbered


def _marks(part):
    """Return the places at which values stand in a part; those of the head have no table."""
    head, atoms = part
    return [(table, at, term) for table, terms in [("", head), *atoms]
            for at, term in enumerate(terms) if not isinstance(term, tuple)]


def parts_by_mark(parts):
    """Return the indexes of different parts by a mark of each, or None for those that have no mark."""
    seen = {}
    by_mark = {}
    for at, part in enumerate(parts):
        head, atoms = renumbered(part, 0)
        if (head, tuple(atoms)) not in seen:
            seen[(head, tuple(atoms))] = True
            marks = _marks(part) or [None]
            by_mark.setdefault(marks[0], []).append(at)
    return by_mark


def may_be_placed(by_mark, part):
    """Return the indexes of the parts that have no mark which the part has not."""
    marks = {mark: True for mark in _marks(part)}
    return [at for mark in [None, *marks] for at in by_mark.get(mark, [])]


def placed_index(parts, indexes, part, schema):
    """Return the first of some indexes whose part is mapped into a part, whose joined terms are one, or None."""
    head, atoms = part
    rows = rows_of(atoms, schema)
    for at in indexes:
        if has_match(parts[at], head, rows):
            return at
    return None
