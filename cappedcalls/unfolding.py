"""The parts of a program: unfolded step by step, and made full by keys and caps."""

from cappedcalls.programs import item_values
from cappedcalls.terms import part_variables, renumbered, united
from cappedcalls.values import columns_of


def _called(step, part, schema):
    _, _, _, service, items = step
    head, atoms = part
    table, given, _ = schema.service_of(service)
    terms = dict(zip(given, item_values(items, head)))
    # The variables of a part are numbered from 0 without a gap.
    first = len(part_variables(part))
    atom = (service, tuple([terms.get(at, (first + at,)) for at in range(schema.width_of(table))]))
    return head + atom[1], [*atoms, atom]


def _paired(one, other):
    head, atoms = one
    more_head, more_atoms = renumbered(other, len(part_variables(one)))
    return head + more_head, [*atoms, *more_atoms]


def _selected(step, part):
    head, _ = part
    return united(part, list(zip(item_values(step[3:4], head), item_values(step[4:5], head))))


def _taken(step, part):
    head, atoms = part
    return item_values(step[3], head), atoms


def _unfolded_step(step, found, schema):
    if step[0] == "start":
        return [((), [])]
    parts = found[step[2]]
    if step[0] == "call":
        return [_called(step, part, schema) for part in parts]
    if step[0] == "both":
        return parts + found[step[3]]
    if step[0] == "pair":
        return [_paired(part, other) for part in parts for other in found[step[3]]]
    if step[0] == "where":
        return [selected for part in parts for selected in _selected(step, part)]
    return [_taken(step, part) for part in parts]


def unfolded(program):
    """Return the parts of the last step; the names of their atoms are services."""
    steps = program.step_list()
    found = {}
    for step in steps:
        parts = _unfolded_step(step, found, program.schema)
        found[step[1]] = [renumbered(part, 0) for part in parts]
    return found[steps[-1][1]]


def _pairs(things):
    return [(one, other) for at, other in enumerate(things) for one in things[:at]]


def _need_one_row(one, other, schema):
    """Return True if two atoms are over one table and have the same terms in its key."""
    table = schema.service_of(one[0])[0]
    key = schema.key_of(table)
    if key is None or table != schema.service_of(other[0])[0]:
        return False
    return columns_of(one[1], key) == columns_of(other[1], key)


def _pair_by_key(atoms, schema):
    """Return the first pair of different terms that a key makes one, in a list, or no pair."""
    pairs = [(one, other) for one, other in _pairs(atoms)
             if one[1] != other[1] and _need_one_row(one, other, schema)]
    return pairs[:1]


def _pairs_by_cap(atoms, schema):
    """Return the pairs of the first atoms that are more than a cap allows, or no pair."""
    for service in schema.capped_names():
        _, given, cap = schema.service_of(service)
        alike = {}
        for name, terms in atoms:
            if name == service:
                alike.setdefault(columns_of(terms, given), []).append((name, terms))
        for group in alike.values():
            if len(group) > cap:
                return _pairs(group)
    return []


def full_parts(program):
    """Return the different full parts of a program; the names of their atoms are services."""
    schema = program.schema
    waiting = unfolded(program)
    full = {}
    while waiting:
        head, atoms = renumbered(waiting.pop(), 0)
        pairs = _pair_by_key(atoms, schema) or _pairs_by_cap(atoms, schema)
        for one, other in pairs:
            waiting.extend(united((head, atoms), list(zip(one[1], other[1]))))
        if not pairs:
            full[(head, tuple(atoms))] = True
    return [(head, list(atoms)) for head, atoms in full]
