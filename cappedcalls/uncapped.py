"""The least sets of services that make a program steady when they have no cap."""

from cappedcalls.steady import is_steady_with


def _name_sets(names):
    """Return all sets of some names as tuples, the smaller ones first."""
    found = [()]
    for name in names:
        found = found + [(*one, name) for one in found]
    return sorted(found, key=lambda one: (len(one), one))


def _has_all(names, wanted):
    return all([name in names for name in wanted])


def least_uncapped(program):
    """Return the least sets of capped services that make a program steady when they have no cap."""
    least = []
    for names in _name_sets(program.schema.capped_names()):
        if not any([_has_all(names, one) for one in least]) and is_steady_with(program, list(names)):
            least.append(names)
    return least
