"""Schemas, stores, programs and questions as lists of lines."""


def _line(words):
    return " ".join([str(word) for word in words])


def _term_word(term):
    return "?" + str(term[0]) if isinstance(term, tuple) else str(term)


def _item_word(item):
    return "=" + str(item[0]) if isinstance(item, tuple) else "#" + str(item)


def schema_lines(schema):
    """Return the lines of a schema: its tables, then its keys, then its services."""
    lines = [_line(["table", name, schema.width_of(name)]) for name in schema.table_names()]
    keys = schema.key_columns
    for name in sorted(keys):
        lines.append(_line(["key", name, *keys[name]]))
    for name in schema.service_names():
        table, given, cap = schema.service_of(name)
        lines.append(_line(["service", name, table, "all" if cap is None else cap, *given]))
    return lines


def store_lines(store):
    """Return the lines of a store, one for each row."""
    return [_line([table, *row]) for table in store.schema.table_names() for row in store[table]]


def _step_words(step):
    """Return the words of a step: its items come last, but for the index of a where."""
    if step[0] == "where":
        return [*step[:4], _item_word(step[4])]
    if step[0] in ("call", "take"):
        return [*step[:-1], *[_item_word(item) for item in step[-1]]]
    return list(step)


def program_lines(program):
    """Return the lines of a program, one for each step."""
    return [_line(_step_words(step)) for step in program.step_list()]


def question_lines(question):
    """Return the lines of a question: its width, and its parts, each with its atoms behind it."""
    lines = [_line(["question", question.width])]
    for head, atoms in question.part_list():
        lines.append(_line(["part", *[_term_word(term) for term in head]]))
        for table, terms in atoms:
            lines.append(_line(["atom", table, *[_term_word(term) for term in terms]]))
    return lines
