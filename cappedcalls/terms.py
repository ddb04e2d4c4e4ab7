"""Terms, and parts: a part is a head, a tuple of terms, and a list of atoms.

An atom is a tuple of a name and its terms. The name is that of a table in a
question, and that of a service where a program is unfolded.
"""

from cappedcalls.values import GREATEST_VALUE, is_plain_int, is_value


def is_variable(thing):
    """Return True if the thing is a tuple of one integer that numbers a variable."""
    if not isinstance(thing, tuple) or len(thing) != 1:
        return False
    return is_plain_int(thing[0]) and 0 <= thing[0] <= GREATEST_VALUE


def is_term(thing):
    """Return True if the thing is a value or a variable."""
    return is_value(thing) or is_variable(thing)


def term_variables(terms):
    """Return the different variables among some terms, in the order in which they come."""
    return list({term: True for term in terms if isinstance(term, tuple)})


def atom_variables(atoms):
    """Return the different variables of some atoms, in the order in which they come."""
    return term_variables([term for _, terms in atoms for term in terms])


def part_variables(part):
    """Return the different variables of a part, in the order in which they come."""
    head, atoms = part
    return term_variables([*head, *atom_variables(atoms)])


def part_values(parts):
    """Return a dict whose keys are the values that stand in some parts."""
    rows = [row for head, atoms in parts for row in [head, *[terms for _, terms in atoms]]]
    return {term: True for row in rows for term in row if not isinstance(term, tuple)}


def placed(terms, places):
    """Return the tuple of the terms, with each variable that has a place replaced by it."""
    return tuple([places.get(term, term) for term in terms])


def placed_part(part, places):
    """Return the part with its variables replaced; atoms that become equal are one."""
    head, atoms = part
    different = {(name, placed(terms, places)): True for name, terms in atoms}
    return placed(head, places), list(different)


def renumbered(part, first):
    """Return the part with its variables numbered from first on, in their order."""
    variables = part_variables(part)
    return placed_part(part, {variable: (first + at,) for at, variable in enumerate(variables)})


def _end_of(term, places):
    while term in places:
        term = places[term]
    return term


def unified(pairs):
    """Return places that make the two terms of each pair one.

    Return None if two different values would have to be one.
    """
    places = {}
    for one, other in pairs:
        here = _end_of(one, places)
        there = _end_of(other, places)
        if here != there:
            if not isinstance(here, tuple) and not isinstance(there, tuple):
                return None
            if isinstance(here, tuple):
                places[here] = there
            else:
                places[there] = here
    return {variable: _end_of(variable, places) for variable in places}


def united(part, pairs):
    """Return a list of the part in which the terms of each pair are one, or no part if none can be."""
    places = unified(pairs)
    return [] if places is None else [placed_part(part, places)]
