"""The lines of schemas, stores, programs and questions, read back."""

from cappedcalls.errors import InvalidLine
from cappedcalls.programs import Program
from cappedcalls.questions import Question
from cappedcalls.schemas import Schema
from cappedcalls.stores import Store
from cappedcalls.values import is_word

MOST_DIGITS = 30


# Each of these functions returns what a word says, or None if it has not the form.

def _name(text):
    return text if is_word(text) else None


def _number(text):
    # isdigit would let digits of other alphabets pass.
    if not 1 <= len(text) <= MOST_DIGITS or not all(["0" <= sign <= "9" for sign in text]):
        return None
    return None if text[0] == "0" and text != "0" else int(text)


def _value(text):
    if not text.startswith("-"):
        number = _number(text)
        return _name(text) if number is None else number
    number = _number(text[1:])
    return None if number is None or number == 0 else -number


def _term(text):
    if not text.startswith("?"):
        return _value(text)
    number = _number(text[1:])
    return None if number is None else (number,)


def _item(text):
    if text.startswith("#"):
        return _number(text[1:])
    value = _value(text[1:]) if text.startswith("=") else None
    return None if value is None else (value,)


def _cap(text):
    return text if text == "all" else _number(text)


# For each kind of line the forms of the words behind it, and the form of any
# more words, or None where no more may stand.
_SCHEMA_FORMS = {"table": ((_name, _number), None), "key": ((_name, _number), _number),
                 "service": ((_name, _name, _cap), _number)}
_PROGRAM_FORMS = {"start": ((_name,), None), "call": ((_name, _name, _name), _item),
                  "both": ((_name, _name, _name), None), "pair": ((_name, _name, _name), None),
                  "where": ((_name, _name, _number, _item), None), "take": ((_name, _name), _item)}
_QUESTION_FORMS = {"question": ((_number,), None), "part": ((), _term), "atom": ((_name,), _term)}
_ROW_FORM = ((_name, _value), _value)
_KINDS = ("table", "key", "service")


def _read(form, words):
    """Return what the words say, or None if they have not the form. An empty word has no form."""
    if form is None:
        return None
    first, more = form
    behind = len(words) - len(first)
    if behind < 0 or (more is None and behind > 0):
        return None
    found = []
    for reader, word in zip([*first, *[more] * behind], words):
        thing = reader(word)
        if thing is None:
            return None
        found.append(thing)
    return found


def _read_at(at, form, words):
    found = _read(form, words)
    if found is None:
        raise InvalidLine(at)
    return found


def read_schema(lines):
    """Return the schema that the lines say."""
    found = {"table": {}, "key": {}, "service": {}}
    latest = 0
    for at, line in enumerate(lines):
        words = line.split(" ")
        kind = words[0]
        things = _read_at(at, _SCHEMA_FORMS.get(kind), words[1:])
        if _KINDS.index(kind) < latest or things[0] in found[kind]:
            raise InvalidLine(at)
        latest = _KINDS.index(kind)
        found[kind][things[0]] = things[1:]
    tables = {name: width for name, (width,) in found["table"].items()}
    keys = {name: tuple(columns) for name, columns in found["key"].items()}
    services = {name: (table, tuple(given), None if cap == "all" else cap)
                for name, (table, cap, *given) in found["service"].items()}
    return Schema(tables, keys, services)


def read_store(schema, lines):
    """Return the store over a schema that the lines say."""
    rows = {}
    for at, line in enumerate(lines):
        things = _read_at(at, _ROW_FORM, line.split(" "))
        rows.setdefault(things[0], []).append(tuple(things[1:]))
    return Store(schema, rows)


def _step(kind, things):
    """Return the step of a line from its kind and what stands behind it."""
    many = {"call": 3, "take": 2}.get(kind)
    return (kind, *things) if many is None else (kind, *things[:many], tuple(things[many:]))


def read_program(schema, lines):
    """Return the program over a schema that the lines say."""
    steps = []
    for at, line in enumerate(lines):
        words = line.split(" ")
        steps.append(_step(words[0], _read_at(at, _PROGRAM_FORMS.get(words[0]), words[1:])))
    return Program(schema, steps)


def read_question(schema, lines):
    """Return the question over a schema that the lines say."""
    width = None
    parts = []
    for at, line in enumerate(lines):
        words = line.split(" ")
        kind = words[0]
        things = _read_at(at, _QUESTION_FORMS.get(kind), words[1:])
        if (kind == "question") != (at == 0) or (kind == "atom" and not parts):
            raise InvalidLine(at)
        if kind == "question":
            width = things[0]
        elif kind == "part":
            parts.append((tuple(things), []))
        else:
            parts[-1][1].append((things[0], tuple(things[1:])))
    if width is None:
        raise InvalidLine(0)
    return Question(schema, width, parts)
