"""Programs: lists of steps that call services, and join and cut what they return."""

from cappedcalls.errors import InvalidProgram
from cappedcalls.values import is_plain_int, is_value, is_word

MOST_STEPS = 12
MOST_WIDTH = 12
MOST_PARTS = 16
MOST_CALLS = 4

# How many things a step of each form has, and how many of them are names,
# from the second one on.
_LENGTHS = {"start": 2, "call": 5, "both": 4, "pair": 4, "where": 5, "take": 4}
_NAMES = {"start": 1, "call": 3, "both": 3, "pair": 3, "where": 2, "take": 2}


def item_values(items, row):
    """Return the values of items of a tuple, or their terms if it is a tuple of terms."""
    return tuple([item[0] if isinstance(item, tuple) else row[item] for item in items])


def items_of(step):
    """Return the items of a step, with the index of a where among them."""
    if step[0] == "where":
        return step[3:5]
    return step[-1] if step[0] in ("call", "take") else ()


def _is_index(thing):
    return is_plain_int(thing) and thing >= 0


def _is_item(thing):
    if isinstance(thing, tuple):
        return len(thing) == 1 and is_value(thing[0])
    return _is_index(thing)


def _has_length_and_names(step):
    if not isinstance(step, tuple) or not step or not isinstance(step[0], str):
        return False
    if len(step) != _LENGTHS.get(step[0]):
        return False
    return all([is_word(name) for name in step[1:1 + _NAMES[step[0]]]])


def _has_form(step):
    if not _has_length_and_names(step):
        return False
    items = items_of(step)
    if not isinstance(items, tuple) or not all([_is_item(item) for item in items]):
        return False
    return step[0] != "where" or _is_index(step[3])


def _used(step):
    if step[0] in ("both", "pair"):
        return step[2:4]
    return step[2:3]


def _has_names(schema, step, sizes):
    if step[1] in sizes or not all([name in sizes for name in _used(step)]):
        return False
    return step[0] != "call" or step[3] in schema.service_names()


def _has_items(schema, step, sizes):
    items = items_of(step)
    if step[0] == "call" and len(items) != len(schema.service_of(step[3])[1]):
        return False
    return all([isinstance(item, tuple) or item < sizes[step[2]][0] for item in items])


def _size(schema, step, sizes):
    """Return the width, the parts and the calls of a step."""
    used = [sizes[name] for name in _used(step)]
    if step[0] == "start":
        return 0, 1, 0
    width, parts, calls = used[0]
    if step[0] == "call":
        return width + schema.width_of(schema.service_of(step[3])[0]), parts, calls + 1
    if step[0] == "both":
        return width, parts + used[1][1], max(calls, used[1][2])
    if step[0] == "pair":
        return width + used[1][0], parts * used[1][1], calls + used[1][2]
    if step[0] == "take":
        return len(step[3]), parts, calls
    return width, parts, calls


def _joins_equal_widths(step, sizes):
    return step[0] != "both" or sizes[step[2]][0] == sizes[step[3]][0]


def _wrong_part(schema, step, sizes):
    """Return the first part of point 18 that holds for a step, or None."""
    if not _has_form(step):
        return "form"
    if not _has_names(schema, step, sizes):
        return "name"
    if not _has_items(schema, step, sizes):
        return "items"
    width, parts, calls = _size(schema, step, sizes)
    if width > MOST_WIDTH or not _joins_equal_widths(step, sizes):
        return "width"
    return "limit" if parts > MOST_PARTS or calls > MOST_CALLS else None


class Program:
    """A list of steps over a schema. It never changes."""

    def __init__(self, schema, steps):
        if not 1 <= len(steps) <= MOST_STEPS:
            raise InvalidProgram("steps", None)
        sizes = {}
        for at, step in enumerate(steps):
            wrong = _wrong_part(schema, step, sizes)
            if wrong is not None:
                raise InvalidProgram(wrong, at)
            sizes[step[1]] = _size(schema, step, sizes)
        self.schema = schema
        self.width, self.part_count, self.call_count = sizes[steps[-1][1]]
        self._steps = list(steps)

    def __eq__(self, other):
        return isinstance(other, Program) and self.schema == other.schema and self._steps == other._steps

    def step_list(self):
        """Return the steps, in their order."""
        return list(self._steps)

    def under(self, schema):
        """Return a new program with the same steps over another schema."""
        return Program(schema, self._steps)
