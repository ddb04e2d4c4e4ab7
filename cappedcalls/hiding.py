"""The hiding store of a full part, with its helping and its hiding choice."""

from cappedcalls.matching import has_match
from cappedcalls.programs import items_of
from cappedcalls.stores import Store
from cappedcalls.terms import part_variables, placed_part
from cappedcalls.values import columns_of, spare_numbers

# A full part has at most 4 atoms of at most 4 terms. Each of them may bring
# a call of a capped service, and with it as many new rows as its cap.
MOST_VARIABLES = 16
MOST_NEW_ROWS = 16
MOST_COLUMNS = 4


def _numbers_for(program):
    """Return integers that stand nowhere in the program, enough for a hiding store."""
    taken = {item[0]: True for step in program.step_list() for item in items_of(step)
             if isinstance(item, tuple)}
    return spare_numbers(taken, MOST_VARIABLES + MOST_NEW_ROWS * MOST_COLUMNS)


def _rows_by_table(schema, atoms):
    found = {table: {} for table in schema.table_names()}
    for service, row in atoms:
        found[schema.service_of(service)[0]][row] = True
    return {table: list(found[table]) for table in found}


def _capped_calls(schema, rows):
    """Return the different calls of capped services that some of the rows fit."""
    found = {}
    for service in schema.capped_names():
        table, given, _ = schema.service_of(service)
        for row in rows[table]:
            found[(service, columns_of(row, given))] = True
    return list(found)


def _new_row(schema, call, numbers):
    service, values = call
    table, given, _ = schema.service_of(service)
    row = dict(zip(given, values))
    return tuple([row.get(at, numbers[at]) for at in range(schema.width_of(table))])


def _new_rows(schema, call, numbers):
    cap = schema.service_of(call[0])[2]
    return [_new_row(schema, call, numbers[at * MOST_COLUMNS:]) for at in range(cap)]


class Hiding:
    """A full part as rows, and the new rows that a choice may return in their place.

    The head of the part is an answer by the choice `helping`. By the choice
    `hiding` it is one only if the program makes it in another way.
    """

    def __init__(self, program, part):
        schema = program.schema
        numbers = _numbers_for(program)
        self.schema = schema
        self.head, atoms = placed_part(part, dict(zip(part_variables(part), numbers)))
        self.rows = _rows_by_table(schema, atoms)
        self.helping = {}
        self.hiding = {}
        calls = _capped_calls(schema, self.rows)
        used = MOST_VARIABLES
        for call in calls:
            service, values = call
            table, given, cap = schema.service_of(service)
            new = _new_rows(schema, call, numbers[used:])
            used += cap * MOST_COLUMNS
            own = [row for name, row in atoms if name == service and columns_of(row, given) == values]
            self.rows[table] = self.rows[table] + new
            self.helping[call] = (own + new)[:cap]
            self.hiding[call] = new

    def made_store(self):
        """Return the hiding store."""
        return Store(self.schema, self.rows)

    def _shown_rows(self):
        """Return by the names of the services the rows that they return by the hiding choice."""
        shown = {}
        for service in self.schema.service_names():
            if self.schema.is_whole(service):
                shown[service] = self.rows[self.schema.service_of(service)[0]]
            else:
                shown[service] = [row for call in self.hiding if call[0] == service for row in self.hiding[call]]
        return shown

    def shows_head(self, parts):
        """Return True if by the hiding choice one of the unfolded parts has the head."""
        shown = self._shown_rows()
        for part in parts:
            if has_match(part, self.head, shown):
                return True
        return False
