"""Logs: calls with the rows that they answered, and the rows that are known from them."""

from cappedcalls.errors import Contradiction, InvalidNote, LimitExceeded
from cappedcalls.stores import Store
from cappedcalls.values import are_values, columns_of, sorted_rows

MOST_KNOWN = 300


def check_call(schema, service, given):
    """Raise InvalidNote if a call has no service of the schema or not one value for each given column."""
    # A list takes also things that are not fit to be looked up in a dict.
    if service not in schema.service_names():
        raise InvalidNote("service")
    if not are_values(given, len(schema.service_of(service)[1])):
        raise InvalidNote("given")


def _check_form(schema, service, given, rows):
    check_call(schema, service, given)
    width = schema.width_of(schema.service_of(service)[0])
    if not isinstance(rows, list) or not all([are_values(row, width) for row in rows]):
        raise InvalidNote("rows")
    if len(sorted_rows(rows)) != len(rows):
        raise InvalidNote("rows")


def _check_answer(schema, service, given, rows):
    _, columns, cap = schema.service_of(service)
    if any([columns_of(row, columns) != given for row in rows]):
        raise Contradiction("fit")
    if cap is not None and len(rows) > cap:
        raise Contradiction("many")


def _respect_key(key, rows):
    """Return True if no two different rows agree in all columns of the key."""
    if key is None:
        return True
    different = {row: True for row in rows}
    return len({columns_of(row, key): True for row in different}) == len(different)


class Log:
    """Calls that were noted, with their rows. Only note changes it."""

    def __init__(self, schema):
        self.schema = schema
        self._noted = {}
        self._known = {}

    def note(self, service, given, rows):
        """Note that a call answered these rows."""
        _check_form(self.schema, service, given, rows)
        _check_answer(self.schema, service, given, rows)
        ordered = sorted_rows(rows)
        self._check_beside(service, given, ordered)
        table = self.schema.service_of(service)[0]
        self._noted[(service, given)] = ordered
        for row in ordered:
            self._known[(table, row)] = True

    def _check_beside(self, service, given, rows):
        """Raise what the noted calls and the known rows have against a call with its rows."""
        table, columns, _ = self.schema.service_of(service)
        if self._noted.get((service, given), rows) != rows:
            raise Contradiction("again")
        known = self._known_rows(table)
        if not _respect_key(self.schema.key_of(table), known + rows):
            raise Contradiction("key")
        if self._is_all(service, rows):
            fitting = [row for row in known if columns_of(row, columns) == given]
            # The rows are different and fit, so fewer of them would be missing some.
            if len({row: True for row in fitting + rows}) > len(rows):
                raise Contradiction("missing")
        new = [row for row in rows if (table, row) not in self._known]
        if any([self._is_excluded(table, row) for row in new]):
            raise Contradiction("new")
        if len(self._known) + len(new) > MOST_KNOWN:
            raise LimitExceeded(MOST_KNOWN)

    def _known_rows(self, table):
        return [row for place, row in self._known if place == table]

    def _is_all(self, service, rows):
        """Return True if no other row can fit a call of the service that answered these rows."""
        return self.schema.is_whole(service) or len(rows) < self.schema.service_of(service)[2]

    def _is_excluded(self, table, row):
        """Return True if a row that is not known fits a complete call."""
        for service, (place, columns, _) in self.schema.services.items():
            if place == table and self.is_complete(service, columns_of(row, columns)):
                return True
        return False

    def known(self, table):
        """Return the known rows of a table, sorted."""
        # It raises what the name of no table raises.
        self.schema.width_of(table)
        return sorted_rows(self._known_rows(table))

    def known_store(self):
        """Return a store of all known rows."""
        return Store(self.schema, {table: self._known_rows(table) for table in self.schema.table_names()})

    def noted_rows(self, service, given):
        """Return the rows that were noted for a call, sorted, or None if it is not noted."""
        # True is equal to 1, but no value; and a list cannot be looked up in a dict.
        if not isinstance(service, str) or not isinstance(given, tuple) or not are_values(given, len(given)):
            return None
        rows = self._noted.get((service, given))
        return None if rows is None else list(rows)

    def is_complete(self, service, given):
        """Return True if a call is noted and no other row can fit it."""
        rows = self.noted_rows(service, given)
        return rows is not None and self._is_all(service, rows)

    def call_list(self):
        """Return the noted calls with their rows, in the order in which they were first noted."""
        return [(service, given, list(rows)) for (service, given), rows in self._noted.items()]

    def __contains__(self, call):
        return isinstance(call, tuple) and len(call) == 2 and self.noted_rows(call[0], call[1]) is not None

    def __len__(self):
        return len(self._noted)

    def trial(self, notes, deed):
        """Note the calls of a list, return what the deed returns for this log, and take all of it back."""
        noted = {call: self._noted[call] for call in self._noted}
        known = {place: True for place in self._known}
        try:
            for service, given, rows in notes:
                self.note(service, given, rows)
            return deed(self)
        finally:
            self._noted, self._known = noted, known
