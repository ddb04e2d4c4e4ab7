"""Matches: the ways to give the variables of a part values so that its atoms become rows.

The atoms are gone through one after another. Of the matches of those that are
behind, only the variables are kept that are wanted or that an atom to come
has: so two matches that differ in nothing that counts are one.

A row may also have terms in the place of values: then a part is matched with
the atoms of another part. The two may have variables of the same numbers.
"""

from cappedcalls.terms import atom_variables, placed, term_variables


def match_of(terms, row):
    """Return the values of the variables by which the terms become the row, or None."""
    places = {}
    for term, value in zip(terms, row):
        wanted = places.setdefault(term, value) if isinstance(term, tuple) else term
        if wanted != value:
            return None
    return places


def _next_atom(atoms, bound):
    # An atom with few new variables has few rows for each match so far.
    return min(atoms, key=lambda atom: len([term for term in term_variables(atom[1]) if term not in bound]))


def _matches_by(shared, wanted, terms, rows):
    """Return the different values of the wanted variables, by the values of the shared ones."""
    found = {}
    for row in rows:
        places = match_of(terms, row)
        if places is not None:
            alike = found.setdefault(placed(shared, places), {})
            alike[placed(wanted, places)] = True
    return found


def _extended(matches, bound, terms, rows, needed):
    """Return the needed variables so far, and the matches with one more atom for them."""
    variables = term_variables(terms)
    kept = [variable for variable in bound if variable in needed]
    new = [variable for variable in variables if variable in needed and variable not in bound]
    shared = [variable for variable in variables if variable in bound]
    by_shared = _matches_by(shared, new, terms, rows)
    found = {}
    for match in matches:
        places = dict(zip(bound, match))
        start = placed(kept, places)
        for more in by_shared.get(placed(shared, places), {}):
            found[start + more] = True
    return kept + new, list(found)


def _matched(places, atoms, wanted, rows):
    """Return what the wanted terms may become by the matches of some atoms that agree with places."""
    rest = list(atoms)
    bound = list(places)
    matches = [placed(bound, places)]
    while rest and matches:
        name, terms = _next_atom(rest, bound)
        rest.remove((name, terms))
        needed = term_variables([*wanted, *atom_variables(rest)])
        bound, matches = _extended(matches, bound, terms, rows[name], needed)
    return [placed(wanted, dict(zip(bound, match))) for match in matches]


def matched_heads(part, rows):
    """Return the different heads of the matches of a part; rows has the rows of each name of an atom."""
    head, atoms = part
    return _matched({}, atoms, head, rows)


def has_match(part, head, rows):
    """Return True if a part has a match by which its head becomes this head."""
    terms, atoms = part
    places = match_of(terms, head)
    return places is not None and len(_matched(places, atoms, (), rows)) > 0


def first_match(part, head, rows):
    """Return what all variables of a part become by one such match, or None if there is none."""
    terms, atoms = part
    places = match_of(terms, head)
    rest = list(atoms)
    while rest and places is not None:
        # There may be far too many matches to make them all: so atom after
        # atom is bound to what leaves a match for the others.
        new = [variable for variable in term_variables(rest[0][1]) if variable not in places]
        found = _matched(places, rest, new, rows)
        if not found:
            return None
        for variable, term in zip(new, found[0]):
            places[variable] = term
        rest = rest[1:]
    return places
