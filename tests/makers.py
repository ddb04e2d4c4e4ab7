"""Random schemas, stores, choices, programs and questions for the tests, and what is worked out the long way."""

import itertools

from cappedcalls.answers import Answers, each_answer
from cappedcalls.errors import CappedError, InvalidProgram, InvalidSchema, InvalidStore
from cappedcalls.logs import Log
from cappedcalls.programs import Program
from cappedcalls.questions import Question
from cappedcalls.schemas import Schema
from cappedcalls.stores import Store

VALUES = [1, 2, 3, "x"]


def some_columns(random, width, least, most):
    return tuple(sorted(random.sample(range(width), random.randint(least, most))))


def random_schema(random, caps=(None, 1, 1, 1, 2, 2, 3, 4), most_width=3):
    while True:
        names = random.sample(["ta", "tb", "tc"], random.randint(1, 3))
        tables = {name: random.randint(1, most_width) for name in names}
        keys = {name: some_columns(random, width, 1, width - 1)
                for name, width in tables.items() if width > 1 and random.random() < 0.4}
        services = {}
        for name in random.sample("abcdefgh", random.randint(2, 6)):
            table = random.choice(names)
            given = some_columns(random, tables[table], 0, tables[table])
            services[name] = (table, given, random.choice(caps))
        try:
            return Schema(tables, keys, services)
        except InvalidSchema:
            continue


def random_store(random, schema, most=5, values=tuple(VALUES)):
    store = Store(schema, {})
    for table, width in schema.tables.items():
        for _ in range(random.randint(0, most)):
            row = tuple(random.choice(values) for _ in range(width))
            try:
                store = store | Store(schema, {table: [row]})
            except InvalidStore:
                continue
    return store


def calls_that_fit(store):
    """Return each call that some row of the store fits, once."""
    calls = {}
    for service, (table, given, _) in store.schema.services.items():
        for row in store[table]:
            calls[(service, tuple(row[column] for column in given))] = True
    return list(calls)


def random_choices(random, store):
    return {call: random.choice(list(each_answer(store, *call))) for call in calls_that_fit(store)}


def every_choices(store):
    """Yield each dict that has an answer for every call that some row fits."""
    calls = calls_that_fit(store)
    for answers in itertools.product(*[list(each_answer(store, *call)) for call in calls]):
        yield dict(zip(calls, answers))


def random_item(random, width):
    if width and random.random() < 0.75:
        return random.randrange(width)
    return (random.choice(VALUES),)


def random_step(random, schema, widths, to):
    origin = random.choice(list(widths)[-3:])
    width = widths[origin]
    form = random.choice(["call"] * 4 + ["both", "both", "pair", "where", "where", "take", "take"])
    if form == "call":
        service = random.choice(schema.service_names())
        given = schema.service_of(service)[1]
        return (form, to, origin, service, tuple(random_item(random, width) for _ in given))
    if form in ("both", "pair"):
        return (form, to, origin, random.choice(list(widths)))
    if form == "where":
        return (form, to, origin, random.randrange(max(1, width)), random_item(random, width))
    return (form, to, origin, tuple(random_item(random, width) for _ in range(random.randint(0, 3))))


def random_program(random, schema, most_steps=12):
    program = Program(schema, [("start", "s")])
    widths = {"s": 0}
    many = random.randint(2, most_steps)
    for _ in range(200):
        steps = program.step_list()
        if len(steps) < many:
            step = random_step(random, schema, widths, "r" + "abcdefghijkl"[len(steps)])
            try:
                program = Program(schema, [*steps, step])
            except InvalidProgram:
                continue
            widths[step[1]] = program.width
    return program


def random_part(random, schema, width, most_atoms=3):
    variables = [(random.choice([0, 1, 2, 7, 10 ** 30 - 1]),) for _ in range(4)]
    atoms = []
    for _ in range(random.randint(0, most_atoms)):
        table = random.choice(schema.table_names())
        terms = [random.choice(variables + VALUES[2:]) for _ in range(schema.width_of(table))]
        atoms.append((table, tuple(terms)))
    bound = [term for _, terms in atoms for term in terms if isinstance(term, tuple)]
    return tuple(random.choice(bound * 2 + VALUES) for _ in range(width)), atoms


def random_question(random, schema, width, most_parts=3, most_atoms=3):
    parts = [random_part(random, schema, width, most_atoms) for _ in range(random.randint(0, most_parts))]
    return Question(schema, width, parts)


def value_of(term, values):
    return values[term] if isinstance(term, tuple) else term


def answers_the_long_way(question, store):
    """Return the answers of a question as a set: every row is tried for every atom."""
    found = set()
    for head, atoms in question.part_list():
        for rows in itertools.product(*[store[table] for table, _ in atoms]):
            pairs = [pair for (_, terms), row in zip(atoms, rows) for pair in zip(terms, row)]
            values = {term: value for term, value in pairs if isinstance(term, tuple)}
            if all(value_of(term, values) == value for term, value in pairs):
                found.add(tuple(value_of(term, values) for term in head))
    return found


def item_of(item, row):
    return item[0] if isinstance(item, tuple) else row[item]


def relations_the_long_way(program, answers):
    """Return the relations of a program as sets, without any limit."""
    found = {}
    for form, to, *rest in program.step_list():
        if form == "start":
            found[to] = {()}
        elif form == "call":
            origin, service, items = rest
            found[to] = {row + more for row in found[origin]
                         for more in answers(service, tuple(item_of(item, row) for item in items))}
        elif form == "both":
            found[to] = found[rest[0]] | found[rest[1]]
        elif form == "pair":
            found[to] = {one + other for one in found[rest[0]] for other in found[rest[1]]}
        elif form == "where":
            origin, index, item = rest
            found[to] = {row for row in found[origin] if row[index] == item_of(item, row)}
        else:
            origin, items = rest
            found[to] = {tuple(item_of(item, row) for item in items) for row in found[origin]}
    return found


def joined_the_long_way(part, schema):
    """Return the set of the pairs of terms of a part that are joined (point 46)."""
    head, atoms = part
    terms = [*head, *[term for _, row in atoms for term in row]]
    joined = {(term, term) for term in terms}
    while True:
        more = joined | {(other, one) for one, other in joined}
        more |= {(one, last) for one, middle in joined for other, last in joined if middle == other}
        for (table, one), (place, other) in itertools.product(atoms, repeat=2):
            key = schema.key_of(table)
            if table == place and key is not None and all((one[at], other[at]) in joined for at in key):
                more |= set(zip(one, other))
        if more == joined:
            return joined
        joined = more


def is_void_the_long_way(part, schema):
    return any(one != other and not isinstance(one, tuple) and not isinstance(other, tuple)
               for one, other in joined_the_long_way(part, schema))


def is_term_the_long_way(thing):
    if isinstance(thing, tuple):
        return len(thing) == 1 and type(thing[0]) is int and 0 <= thing[0] < 10 ** 30
    if type(thing) is int:
        return abs(thing) < 10 ** 30
    return type(thing) is str and 1 <= len(thing) <= 8 and set(thing) <= set("abcdefghijklmnopqrstuvwxyz")


def is_entry_the_long_way(entry, part, others, schema):
    """Return True if an entry of a paper is right for a part (point 49)."""
    joined = joined_the_long_way(part, schema)
    if is_void_the_long_way(part, schema):
        return type(entry) is tuple and entry == ("void",)
    if type(entry) is not tuple or len(entry) != 2 or type(entry[0]) is not int or entry[0] not in range(len(others)):
        return False
    head, atoms = others[entry[0]]
    places = entry[1]
    variables = {term for row in [head, *[terms for _, terms in atoms]] for term in row if isinstance(term, tuple)}
    if type(places) is not dict or {repr(key) for key in places} != {repr(key) for key in variables}:
        return False
    if not all(is_term_the_long_way(places[key]) for key in places):
        return False

    def are_joined(terms, row):
        there = [places[term] if isinstance(term, tuple) else term for term in terms]
        return all(one == other or (one, other) in joined for one, other in zip(there, row))

    has_atoms = all(any(table == place and are_joined(terms, row) for place, row in part[1]) for table, terms in atoms)
    return has_atoms and are_joined(head, part[0])


def noted_log(schema, calls):
    log = Log(schema)
    for service, given, rows in calls:
        log.note(service, given, rows)
    return log


def random_log(random, schema, most=4, values=tuple(VALUES)):
    """Return a log of some calls over a random store, some of which no row fits."""
    store = random_store(random, schema, most, values)
    answers = Answers(store, random_choices(random, store))
    log = Log(schema)
    calls = calls_that_fit(store)
    for service, (_, given, _) in schema.services.items():
        calls.append((service, tuple(random.choice(values) for _ in given)))
    for service, given in random.sample(calls, random.randint(0, min(5, len(calls)))):
        log.note(service, given, answers(service, given))
    return log


def is_possible_the_long_way(log, store):
    """Return True if a store has all known rows and no other one that fits a complete call (point 59)."""
    for service, given, rows in log.call_list():
        table, columns, cap = log.schema.service_of(service)
        if not set(rows) <= set(store[table]):
            return False
        fitting = {row for row in store[table] if tuple(row[at] for at in columns) == given}
        if (log.schema.is_whole(service) or len(rows) < cap) and fitting != set(rows):
            return False
    return True


def each_possible_store(log, values, most):
    """Yield each possible store that has at most so many rows of these values that are not known."""
    known = log.known_store()
    new = [(table, row) for table, width in log.schema.tables.items()
           for row in itertools.product(values, repeat=width) if (table, row) not in known]
    for many in range(most + 1):
        for places in itertools.combinations(new, many):
            rows = {}
            for table, row in places:
                rows.setdefault(table, []).append(row)
            try:
                store = known | Store(log.schema, rows)
            except CappedError:
                continue
            if is_possible_the_long_way(log, store):
                yield store
