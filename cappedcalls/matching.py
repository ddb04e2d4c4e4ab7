"""Matches: the ways to give the variables of a part values so that its atoms become rows.

The atoms are gone through one after another. Of the matches of those that are
behind, only the variables are kept that the head or an atom to come has: so
two matches that differ in nothing that counts are one.
"""

from cappedcalls.terms import atom_variables, placed, term_variables


def _match(terms, row):
    """Return the values of the variables by which the terms become the row, or None."""
    places = {}
    for term, value in zip(terms, row):
        wanted = places.setdefault(term, value) if isinstance(term, tuple) else term
        if wanted != value:
            return None
    return places


def _next_atom(atoms, bound):
    # An atom with few new variables has few rows for each match so far.
    return min(atoms, key=lambda atom: len([term for term in term_variables(atom[1]) if term not in bound]))


def _matches_by(shared, wanted, terms, rows):
    """Return the different values of the wanted variables, by the values of the shared ones."""
    found = {}
    for row in rows:
        places = _match(terms, row)
        if places is not None:
            alike = found.setdefault(placed(shared, places), {})
            alike[placed(wanted, places)] = True
    return found


def _extended(matches, bound, terms, rows, needed):
    """Return the needed variables so far, and the matches with one more atom for them."""
    variables = term_variables(terms)
    kept = [variable for variable in bound if variable in needed]
    new = [variable for variable in variables if variable in needed and variable not in bound]
    shared = [variable for variable in variables if variable in bound]
    by_shared = _matches_by(shared, new, terms, rows)
    found = {}
    for match in matches:
        places = dict(zip(bound, match))
        start = placed(kept, places)
        for more in by_shared.get(placed(shared, places), {}):
            found[start + more] = True
    return kept + new, list(found)


def matched_heads(part, rows):
    """Return the different heads of the matches of a part; rows has the rows of each name of an atom."""
    head, atoms = part
    rest = list(atoms)
    bound = []
    matches = [()]
    while rest and matches:
        name, terms = _next_atom(rest, bound)
        rest.remove((name, terms))
        needed = term_variables([*head, *atom_variables(rest)])
        bound, matches = _extended(matches, bound, terms, rows[name], needed)
    return [placed(head, dict(zip(bound, match))) for match in matches]
