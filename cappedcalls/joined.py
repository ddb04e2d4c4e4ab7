"""Joined terms: the terms of a part that the keys of the tables make one."""

from cappedcalls.terms import placed, placed_part, unified
from cappedcalls.values import columns_of


def _pairs_by_keys(atoms, schema):
    """Return the pairs of different terms of atoms that have the same terms in a key."""
    first = {}
    pairs = []
    for table, terms in atoms:
        key = schema.key_of(table)
        if key is not None:
            found = first.setdefault((table, columns_of(terms, key)), terms)
            pairs.extend([(one, other) for one, other in zip(found, terms) if one != other])
    return pairs


def joined_places(atoms, schema):
    """Return places that make the joined terms of some atoms one, or None if they are void.

    The place of a variable is a term that stands in the atoms: a value if one is joined to it.
    """
    pairs = []
    places = {}
    more = _pairs_by_keys(atoms, schema)
    while more and places is not None:
        # What is one now may make two more atoms agree in a key.
        pairs = pairs + more
        places = unified(pairs)
        if places is not None:
            more = _pairs_by_keys([(table, placed(terms, places)) for table, terms in atoms], schema)
    return places


def joined_part(part, schema):
    """Return a list of the part in which joined terms are one, or no part if it is void."""
    places = joined_places(part[1], schema)
    return [] if places is None else [placed_part(part, places)]


def rows_of(atoms, schema):
    """Return the terms of some atoms as rows, by the names of all tables."""
    rows = {table: [] for table in schema.table_names()}
    for table, terms in atoms:
        rows[table].append(terms)
    return rows
