"""The answers of calls, and the answers that are picked for all calls over a store."""

from cappedcalls.errors import InvalidCall, InvalidChoice, UnknownName
from cappedcalls.values import row_key, sorted_rows


def _answer_size(store, service, rows):
    cap = store.schema.service_of(service)[2]
    return len(rows) if cap is None else min(cap, len(rows))


def each_answer(store, service, given):
    """Yield every answer of a call once, as a sorted list, in the order of the answers' rows."""
    rows = store.fitting(service, given)
    many = _answer_size(store, service, rows)
    places = list(range(many))
    at = 0
    while at >= 0:
        yield [rows[place] for place in places]
        # The last place that can still move moves on, and all behind it follow it.
        at = many - 1
        while at >= 0 and places[at] == len(rows) - many + at:
            at -= 1
        if at >= 0:
            moved = places[at] + 1
            places = places[:at] + list(range(moved, moved + many - at))


def _is_answer(store, service, given, rows):
    fitting = store.fitting(service, given)
    if not isinstance(rows, list) or len(rows) != _answer_size(store, service, fitting):
        return False
    return all([row in fitting for row in rows]) and len(sorted_rows(rows)) == len(rows)


def _check_choice(store, service, given, rows):
    try:
        right = _is_answer(store, service, given, rows)
    except (UnknownName, InvalidCall):
        right = False
    if not right:
        raise InvalidChoice(service, given)


def _call_key(call):
    service, given = call
    return service, row_key(given)


class Answers:
    """One answer for every call over a store. It never changes."""

    def __init__(self, store, choices=None):
        chosen = {} if choices is None else choices
        calls = sorted(list(chosen), key=_call_key)
        for service, given in calls:
            _check_choice(store, service, given, chosen[(service, given)])
        self.store = store
        self.schema = store.schema
        self._chosen = {call: sorted_rows(chosen[call]) for call in calls}

    @property
    def choices(self):
        """A new dict from the calls that were chosen for to their answers."""
        return {call: list(self._chosen[call]) for call in self._chosen}

    def __call__(self, service, given):
        rows = self.store.fitting(service, given)
        if (service, given) in self._chosen:
            return list(self._chosen[(service, given)])
        return rows[:_answer_size(self.store, service, rows)]
