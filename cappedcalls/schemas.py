"""Schemas: tables with their keys, and the services that read them."""

from cappedcalls.errors import InvalidSchema, SchemaMismatch, UnknownName
from cappedcalls.values import is_plain_int, is_word

MOST_TABLES = 5
MOST_WIDTH = 4
MOST_SERVICES = 8
MOST_CAP = 4


def _is_count(thing, most):
    return is_plain_int(thing) and 1 <= thing <= most


def _is_name_in(thing, names):
    # What is no string may not be fit to be looked up in a dict.
    return isinstance(thing, str) and thing in names


def _are_columns(thing, width):
    if not isinstance(thing, tuple):
        return False
    least = 0
    for column in thing:
        if not is_plain_int(column) or not least <= column < width:
            return False
        least = column + 1
    return True


def _is_key(thing, width):
    return _are_columns(thing, width) and 0 < len(thing) < width


def _is_service(thing, tables):
    if not isinstance(thing, tuple) or len(thing) != 3:
        return False
    table, given, cap = thing
    if not _is_name_in(table, tables) or not _are_columns(given, tables[table]):
        return False
    return cap is None or _is_count(cap, MOST_CAP)


def _is_whole_service(service, tables, keys):
    table, given, cap = service
    if cap is None or len(given) == tables[table]:
        return True
    return table in keys and all([column in given for column in keys[table]])


def _check_tables(tables):
    if not 1 <= len(tables) <= MOST_TABLES:
        raise InvalidSchema("tables", None)
    for name in sorted(tables):
        if not is_word(name) or not _is_count(tables[name], MOST_WIDTH):
            raise InvalidSchema("tables", name)


def _check_keys(keys, tables):
    for name in sorted(keys):
        if name not in tables or not _is_key(keys[name], tables[name]):
            raise InvalidSchema("keys", name)


def _check_services(services, tables):
    if not 1 <= len(services) <= MOST_SERVICES:
        raise InvalidSchema("services", None)
    for name in sorted(services):
        if not is_word(name) or not _is_service(services[name], tables):
            raise InvalidSchema("services", name)


def _check_capped(services, tables, keys):
    capped_tables = []
    for name in sorted(services):
        service = services[name]
        if not _is_whole_service(service, tables, keys):
            if service[0] in capped_tables:
                raise InvalidSchema("capped", name)
            capped_tables.append(service[0])


def _copied(things):
    # In ascending order, so that nothing depends on the order of the caller's dict.
    return {name: things[name] for name in sorted(things)}


class Schema:
    """Tables, keys of some of them, and services. It never changes."""

    def __init__(self, tables, keys, services):
        _check_tables(tables)
        _check_keys(keys, tables)
        _check_services(services, tables)
        _check_capped(services, tables, keys)
        self._tables = _copied(tables)
        self._keys = _copied(keys)
        self._services = _copied(services)

    @property
    def tables(self):
        """A new dict from the names of the tables to their widths."""
        return dict(self._tables)

    @property
    def key_columns(self):
        """A new dict from the names of the tables that have a key to their keys."""
        return dict(self._keys)

    @property
    def services(self):
        """A new dict from the names of the services to the services."""
        return dict(self._services)

    def __eq__(self, other):
        return (isinstance(other, Schema) and self._tables == other._tables
                and self._keys == other._keys and self._services == other._services)

    def table_names(self):
        """Return the names of the tables, ascending."""
        return sorted(self._tables)

    def service_names(self):
        """Return the names of the services, ascending."""
        return sorted(self._services)

    def capped_names(self):
        """Return the names of the services that are not whole, ascending."""
        return [name for name in self.service_names() if not self.is_whole(name)]

    def width_of(self, table):
        """Return the width of a table."""
        if not _is_name_in(table, self._tables):
            raise UnknownName(table)
        return self._tables[table]

    def key_of(self, table):
        """Return the key of a table, or None if it has none."""
        if not _is_name_in(table, self._tables):
            raise UnknownName(table)
        return self._keys.get(table)

    def service_of(self, name):
        """Return a service, the tuple of its table, its given columns and its cap."""
        if not _is_name_in(name, self._services):
            raise UnknownName(name)
        return self._services[name]

    def is_whole(self, name):
        """Return True if a service always returns all rows that fit."""
        return _is_whole_service(self.service_of(name), self._tables, self._keys)

    def uncapped(self, names):
        """Return a new schema in which the services of the list have no cap."""
        services = dict(self._services)
        for name in names:
            table, given, _ = self.service_of(name)
            services[name] = (table, given, None)
        return Schema(self._tables, self._keys, services)


def check_same(one, other):
    """Raise SchemaMismatch if two schemas are not equal."""
    if one != other:
        raise SchemaMismatch()
