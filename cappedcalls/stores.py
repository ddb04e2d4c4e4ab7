"""Stores: the rows of the tables of a schema."""

from cappedcalls.errors import InvalidCall, InvalidStore, LimitExceeded
from cappedcalls.schemas import check_same
from cappedcalls.values import are_values, columns_of, sorted_rows

MOST_ROWS = 400


def _check_table(schema, table, rows):
    if table not in schema.table_names():
        raise InvalidStore(table, None)
    width = schema.width_of(table)
    key = schema.key_of(table)
    # Rows that are equal agree in the columns of a key, too.
    columns = tuple(range(width)) if key is None else key
    seen = {}
    for at, row in enumerate(rows):
        if not are_values(row, width) or columns_of(row, columns) in seen:
            raise InvalidStore(table, at)
        seen[columns_of(row, columns)] = True


def _by_given(rows, given):
    found = {}
    for row in rows:
        found.setdefault(columns_of(row, given), []).append(row)
    return found


class Store:
    """The rows of the tables of a schema. It never changes."""

    def __init__(self, schema, rows):
        for table in sorted(rows):
            _check_table(schema, table, rows[table])
        if sum([len(rows[table]) for table in rows]) > MOST_ROWS:
            raise LimitExceeded(MOST_ROWS)
        ordered = {table: sorted_rows(rows.get(table, [])) for table in schema.table_names()}
        self.schema = schema
        self._rows = {table: {row: True for row in ordered[table]} for table in ordered}
        # A run makes thousands of calls, so the rows of each call are found once for all.
        self._fitting = {name: _by_given(ordered[table], given)
                         for name, (table, given, _) in schema.services.items()}

    def __getitem__(self, table):
        # It raises what the name of no table raises.
        self.schema.width_of(table)
        return list(self._rows[table])

    def __iter__(self):
        raise TypeError("a store is not iterated over")

    def __contains__(self, place):
        table, row = place
        return table in self._rows and row in self._rows[table]

    def __len__(self):
        return len([row for rows in self._rows.values() for row in rows])

    def __eq__(self, other):
        return isinstance(other, Store) and self.schema == other.schema and self._rows == other._rows

    def __or__(self, other):
        check_same(self.schema, other.schema)
        rows = {table: self[table] + [row for row in other[table] if (table, row) not in self]
                for table in self.schema.table_names()}
        return Store(self.schema, rows)

    def is_part_of(self, other):
        """Return True if every row of this store is a row of the same table of the other one."""
        check_same(self.schema, other.schema)
        return all([(table, row) in other for table in self._rows for row in self._rows[table]])

    def fitting(self, service, given):
        """Return the rows that fit a call, sorted."""
        columns = self.schema.service_of(service)[1]
        if not are_values(given, len(columns)):
            raise InvalidCall(service)
        return list(self._fitting[service].get(given, []))
