"""What a log leaves possible: the new rows that a part can have beside the known ones.

An atom is bound to the known rows if a new row in its place would fit a
complete call or break a key. The rows that it may become are tried one after
another. What is left in the end is bound to nothing: with values of their own
for its variables, its atoms are new rows of a possible store.
"""

from cappedcalls.joined import joined_part, rows_of
from cappedcalls.matching import match_of
from cappedcalls.stores import Store
from cappedcalls.terms import part_values, part_variables, placed_part, united
from cappedcalls.values import columns_of, spare_numbers


class Beyond:
    """The known rows and the complete calls of a log, as they are when it is made."""

    def __init__(self, log):
        self.schema = log.schema
        self.store = log.known_store()
        self.calls = log.call_list()
        self.complete = {(service, given): True for service, given, _ in self.calls
                         if log.is_complete(service, given)}
        self.by_key = {}
        self.by_value = {}
        for table in self.schema.table_names():
            self._add_rows(table, self.schema.key_of(table))

    def _add_rows(self, table, key):
        for row in self.store[table]:
            if key is not None:
                self.by_key[(table, columns_of(row, key))] = True
            for at, value in enumerate(row):
                self.by_value.setdefault((table, at, value), []).append(row)

    def is_bound(self, atom):
        """Return True if whatever row an atom becomes, it is a known one."""
        table, terms = atom
        key = self.schema.key_of(table)
        if key is not None and (table, columns_of(terms, key)) in self.by_key:
            return True
        return any([place == table and (service, columns_of(terms, given)) in self.complete
                    for service, (place, given, _) in self.schema.services.items()])

    def rows_for(self, atom):
        """Return the known rows that an atom may become."""
        table, terms = atom
        lists = [self.by_value.get((table, at, term), []) for at, term in enumerate(terms)
                 if not isinstance(term, tuple)]
        rows = min(lists, key=len) if lists else self.store[table]
        return [row for row in rows if match_of(terms, row) is not None]

    def _bound_parts(self, part):
        """Return the part with its bound atom made each of its rows, or None if no atom is bound."""
        bound = [(atom[1], self.rows_for(atom)) for atom in part[1] if self.is_bound(atom)]
        if not bound:
            return None
        terms, rows = min(bound, key=lambda choice: len(choice[1]))
        return [made for row in rows for made in united(part, list(zip(terms, row)))]

    def new_part(self, part, barred):
        """Return the part as its atoms can be new rows, all its known ones left out, or None.

        There is at least one new row. The head is not one of the barred ones.
        """
        waiting = [part]
        seen = {}
        while waiting:
            joined = joined_part(waiting.pop(), self.schema)
            for head, atoms in joined:
                left = [atom for atom in atoms if atom not in self.store]
                state = (head, tuple(left))
                if left and state not in seen:
                    seen[state] = True
                    more = self._bound_parts((head, left))
                    if more is None and head not in barred:
                        return head, left
                    waiting.extend(more or [])
        return None

    def with_new_rows(self, part, question):
        """Return a possible store with the atoms of such a part as new rows, and the row of its head."""
        noted = [((), [(service, given), *[(service, row) for row in rows]]) for service, given, rows in self.calls]
        taken = part_values([part, *noted, *question.part_list()])
        variables = part_variables(part)
        head, atoms = placed_part(part, dict(zip(variables, spare_numbers(taken, len(variables)))))
        return self.store | Store(self.schema, rows_of(atoms, self.schema)), head
