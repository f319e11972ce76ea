"""The definitions of points 8 to 12, written down once more and as plainly as can be, and random plans to compare with.

Nothing here comes from the package but the errors. A row is a dict here, and a table a pair of a schema and such rows.
"""

import functools
import random

from labelframes import errors

INT_WORDS = {"add": int.__add__, "sub": int.__sub__, "mul": int.__mul__}


def value(expression, row):
    """The value of an expression for a row."""
    word, *parts = expression
    if word == "col":
        return row[parts[0]]
    if word == "value":
        return parts[1]
    values = [value(part, row) for part in parts]
    if word == "and":
        return False if False in values else None if None in values else True
    if word == "or":
        return True if True in values else None if None in values else False
    if word == "there":
        return values[0] is not None
    if word == "if":
        return values[1] if values[0] else values[2]
    if word == "else":
        return values[1] if values[0] is None else values[0]
    if None in values:
        return None
    if word in INT_WORDS:
        return INT_WORDS[word](*values)
    if word in ("div", "mod"):
        return divmod(*values)[("div", "mod").index(word)] if values[1] else None
    return {"glue": lambda x, y=None: x + y, "size": len, "eq": lambda x, y=None: x == y, "lt": lambda x, y=None: x < y,
            "le": lambda x, y=None: x <= y, "not": lambda x: not x}[word](*values)


def kind(expression, schema):
    """The kind of an expression, or the error of point 9."""
    word, *parts = expression
    if word == "col":
        if parts[0] not in dict(schema):
            raise errors.UnknownColumn(parts[0])
        return dict(schema)[parts[0]]
    if word == "value":
        return parts[0]
    kinds = [kind(part, schema) for part in parts]
    fits = {"add": kinds == ["int"] * 2, "glue": kinds == ["text"] * 2, "size": kinds == ["text"], "and": kinds == ["bool"] * 2,
            "not": kinds == ["bool"], "there": True, "if": kinds[0] == "bool" and kinds[1:2] == kinds[2:]}
    for like, others in (("add", ("sub", "mul", "div", "mod")), ("and", ("or",))):
        fits.update({other: fits[like] for other in others})
    fits.update({other: len(set(kinds)) == 1 for other in ("eq", "lt", "le", "else")})
    if not fits[word]:
        raise errors.WrongKind(word)
    if word in ("if", "else"):
        return kinds[-1]
    return {"glue": "text"}.get(word, "int" if word in ("add", "sub", "mul", "div", "mod", "size") else "bool")


def want(names, schema):
    """Raises UnknownColumn for the first name that is none of the schema's."""
    for name in names:
        if name not in dict(schema):
            raise errors.UnknownColumn(name)


def single(schema):
    """The schema, or DoubleColumn."""
    names = [column[0] for column in schema]
    for at, name in enumerate(names):
        if name in names[:at]:
            raise errors.DoubleColumn(name)
    return tuple(schema)


def sum_kind(function, name, schema):
    """The kind of a function of a column."""
    if function == "sum" and dict(schema)[name] != "int":
        raise errors.WrongKind("sum")
    return "int" if function in ("count", "there", "sum") else dict(schema)[name]


def schema_of(plan, schemas):
    """The schema of a plan, or the error of point 12; `schemas` is a dict."""
    word, *rest = plan
    if word == "scan":
        if rest[0] not in schemas:
            raise errors.UnknownSource(rest[0])
        return schemas[rest[0]]
    p = schema_of(rest[0], schemas)
    if word == "slice":
        return p
    if word == "where":
        if kind(rest[1], p) != "bool":
            raise errors.WrongKind("where")
        return p
    if word == "pick":
        want(rest[1], p)
        return tuple((name, dict(p)[name]) for name in rest[1])
    if word == "rename":
        want(rest[1:2], p)
        single(p + ((rest[2], "int"),))
        return tuple((rest[2], k) if name == rest[1] else (name, k) for name, k in p)
    if word == "with":
        columns = dict(p)
        columns[rest[1]] = kind(rest[2], p)
        return tuple(columns.items())
    if word in ("sort", "first"):
        want([item[0] if word == "sort" else item for item in rest[1]], p)
        return p
    if word == "group":
        want(rest[1] + tuple(item[2] for item in rest[2]), p)
        sums = [(item[0], sum_kind(item[1], item[2], p)) for item in rest[2]]
        return single([(name, dict(p)[name]) for name in rest[1]] + sums)
    if word == "running":
        want((rest[3],) + rest[4], p)
        return single(p + ((rest[1], sum_kind(rest[2], rest[3], p)),))
    if word == "melt":
        want(rest[1] + rest[2], p)
        kinds = {dict(p)[name] for name in rest[2]}
        if len(kinds) > 1:
            raise errors.WrongKind("melt")
        return single([(name, dict(p)[name]) for name in rest[1]] + [(rest[3], "text"), (rest[4], *kinds)])
    return schema_of_two(word, p, schema_of(rest[1], schemas), *rest[2:])


def schema_of_two(word, p, q, pairs=(), how=None):
    """The same for a "stack" or a "join"."""
    if word == "stack":
        if p != q:
            raise errors.DifferentSchemas()
        return p
    for one, other in pairs:
        want([one], p)
        want([other], q)
    for one, other in pairs:
        if dict(p)[one] != dict(q)[other]:
            raise errors.WrongKind("join")
    if how in ("semi", "anti"):
        return p
    return single(p + tuple(column for column in q if column[0] not in [pair[1] for pair in pairs]))


def order(keys):
    """A comparison of rows by the keys of a "sort"."""
    def compare(one, other):
        for name, up in keys:
            x, y = one[name], other[name]
            if x is None or y is None:
                if (x is None) != (y is None):
                    return 1 if x is None else -1
            elif x != y:
                return 1 if (x > y) == up else -1
        return 0
    return compare


def total(function, values):
    """The value of a function for values."""
    there = [item for item in values if item is not None]
    return {"count": lambda: len(values), "there": lambda: len(there), "sum": lambda: sum(there),
            "min": lambda: sorted(there)[0] if there else None, "max": lambda: sorted(there)[-1] if there else None,
            "first": lambda: values[0], "last": lambda: values[-1]}[function]()


def alike(one, other, names):
    """Whether two rows have alike values in these columns."""
    return all(one[name] == other[name] for name in names)


def rows_of(plan, house):
    """The rows that a plan gives; `house` is a dict of tables."""
    word, *rest = plan
    if word == "scan":
        return house[rest[0]][1]
    p = rows_of(rest[0], house)
    if word == "where":
        return [row for row in p if value(rest[1], row) is True]
    if word == "pick":
        return [{name: row[name] for name in rest[1]} for row in p]
    if word == "rename":
        return [{rest[2] if name == rest[1] else name: row[name] for name in row} for row in p]
    if word == "with":
        return [{**row, rest[1]: value(rest[2], row)} for row in p]
    if word == "sort":
        return sorted(p, key=functools.cmp_to_key(order(rest[1])))
    if word == "slice":
        return [row for at, row in enumerate(p) if at >= rest[1] and (rest[2] is None or at < rest[1] + rest[2])]
    if word == "first":
        return [row for at, row in enumerate(p) if not any(alike(row, other, rest[1]) for other in p[:at])]
    if word == "group":
        found = []
        for at, row in enumerate(p):
            if not any(alike(row, other, rest[1]) for other in p[:at]):
                group = [other for other in p if alike(row, other, rest[1])]
                sums = {new: total(function, [other[name] for other in group]) for new, function, name in rest[2]}
                found.append({**{name: row[name] for name in rest[1]}, **sums})
        return found
    if word == "running":
        new, function, name, by = rest[1:]
        return [{**row, new: total(function, [other[name] for other in p[:at + 1] if alike(row, other, by)])}
                for at, row in enumerate(p)]
    if word == "melt":
        return [{**{name: row[name] for name in rest[1]}, rest[3]: name, rest[4]: row[name]} for row in p for name in rest[2]]
    return rows_of_two(word, p, rows_of(rest[1], house), schema_of(rest[1], {k: v[0] for k, v in house.items()}), *rest[2:])


def rows_of_two(word, p, q, schema, pairs=(), how=None):
    """The same for a "stack" or a "join"; the schema is that of q."""
    if word == "stack":
        return p + q
    others = [name for name, _ in schema if name not in [pair[1] for pair in pairs]]
    found = []
    for row in p:
        matching = [other for other in q if all(row[x] is not None and row[x] == other[y] for x, y in pairs)]
        if how in ("semi", "anti"):
            found += [row] if bool(matching) == (how == "semi") else []
            continue
        if how == "left" and not matching:
            matching = [dict.fromkeys(others)]
        found += [{**row, **{name: other[name] for name in others}} for other in matching]
    return found


class Maker:
    """Makes random things; the same ones for the same seed."""

    NAMES = ("a", "b", "c", "d", "e", "f")
    KINDS = ("int", "text", "bool")

    def __init__(self, seed):
        self.random = random.Random(seed)

    def some(self, things, least=0, most=3):
        """Some of these things, in any sequence."""
        things = list(things)
        return tuple(self.random.sample(things, min(len(things), self.random.randint(least, most))))

    def value(self, kind):
        """A value of a kind, now and then a missing one."""
        return self.random.choice({"int": (None, 0, 1, 2, -1, 3), "text": (None, "", "x", "y", "xy"),
                                   "bool": (None, True, False)}[kind])

    def schema(self):
        """A schema."""
        return tuple((name, self.random.choice(self.KINDS)) for name in self.some(self.NAMES, 1, 4))

    def rows(self, schema):
        """Rows of a schema."""
        return tuple(tuple(self.value(kind) for _, kind in schema) for _ in range(self.random.randint(0, 8)))

    def expression(self, schema, wanted, levels):
        """An expression of the wanted kind that fits the schema."""
        columns = [("col", name) for name, kind in schema if kind == wanted]
        if levels <= 1 or self.random.random() < 0.3:
            return self.random.choice(columns + columns + [("value", wanted, self.value(wanted))])

        def of(kind):
            return self.expression(schema, kind, levels - 1)
        word = self.random.choice({"int": ("add", "sub", "mul", "div", "mod", "size", "if", "else"),
                                   "text": ("glue", "if", "else"),
                                   "bool": ("eq", "lt", "le", "and", "or", "not", "there", "if", "else")}[wanted])
        if word == "if":
            return (word, of("bool"), of(wanted), of(wanted))
        if word == "else":
            return (word, of(wanted), of(wanted))
        if word in ("eq", "lt", "le", "there"):
            kind = self.random.choice(self.KINDS)
            return (word, of(kind)) if word == "there" else (word, of(kind), of(kind))
        part = {"size": "text"}.get(word, wanted)
        return (word, of(part)) if word in ("size", "not") else (word, of(part), of(part))

    def plan(self, schemas, levels):
        """A plan that has a schema; `schemas` is a dict."""
        if levels <= 1 or self.random.random() < 0.1:
            return ("scan", self.random.choice(sorted(schemas)))
        p = self.plan(schemas, levels - 1)
        schema = schema_of(p, schemas)
        for _ in range(5):
            plan = self.step(p, schema, schemas, levels)
            try:
                schema_of(plan, schemas)
                return plan
            except errors.FindError:
                pass
        return p

    def step(self, p, schema, schemas, levels):
        """A plan with one more step, which may not have a schema."""
        names = [name for name, _ in schema]
        one = self.random.choice(names)
        new = self.random.choice(self.NAMES)
        word = self.random.choice(("where", "where", "where", "pick", "pick", "rename", "with", "sort", "slice", "slice", "first",
                                   "stack", "join", "join", "group", "running", "melt"))
        if word == "where":
            return (word, p, self.expression(schema, "bool", 3))
        if word in ("pick", "first"):
            return (word, p, self.some(names, 1, 4))
        if word == "rename":
            return (word, p, one, new)
        if word == "with":
            return (word, p, new, self.expression(schema, self.random.choice(self.KINDS), 3))
        if word == "sort":
            return (word, p, tuple((name, self.random.random() < 0.5) for name in self.some(names, 1, 3)))
        if word == "slice":
            return (word, p, self.random.randint(0, 3), self.random.choice((None, 0, 1, 3, 5)))
        if word == "group":
            functions = ("count", "there", "sum", "min", "max", "first", "last")
            sums = tuple((self.random.choice(self.NAMES), self.random.choice(functions), self.random.choice(names))
                         for _ in range(self.random.randint(0, 2)))
            return (word, p, self.some(names, 1, 2), sums)
        if word == "running":
            return (word, p, new, self.random.choice(("count", "there", "sum", "min", "max")), one, self.some(names, 0, 2))
        if word == "melt":
            melted = self.some([name for name, kind in schema if kind == dict(schema)[one]], 1, 2)
            keep = self.some([name for name in names if name not in melted], 0, 2)
            return (word, p, keep, melted, new, self.random.choice(self.NAMES))
        if word == "stack":
            return (word, p, self.random.choice((p, ("slice", p, 1, 2), self.plan(schemas, levels - 2))))
        return self.join(p, schema, schemas, levels)

    def join(self, p, schema, schemas, levels):
        """A "join", or p if there is nothing to join by."""
        q = self.plan(schemas, levels - 2)
        pairs = [(x, y) for x, kind in schema for y, like in schema_of(q, schemas) if kind == like]
        chosen = self.some(pairs, 1, 2)
        if not chosen or len({x for x, _ in chosen}) < len(chosen) or len({y for _, y in chosen}) < len(chosen):
            return p
        return ("join", p, q, chosen, self.random.choice(("inner", "inner", "left", "semi", "anti")))

    def case(self):
        """A plan that has a schema, and a dict of tables (schema, rows)."""
        tables = {}
        for source in ("s", "t"):
            schema = self.schema()
            tables[source] = (schema, self.rows(schema))
        return self.plan({source: table[0] for source, table in tables.items()}, self.random.randint(1, 8)), tables

    def spoiled(self, plan):
        """The plan with one of its words and numbers replaced by another one."""
        places = []

        def walk(item, path):
            if isinstance(item, tuple):
                for at, inner in enumerate(item):
                    walk(inner, path + (at,))
            else:
                places.append((path, item))
        walk(plan, ())
        path, item = self.random.choice(places)
        families = [family for family in FAMILIES if item in family]
        return replaced(plan, path, self.random.choice(families[0] if families else FAMILIES[0]))


# Words that may take each other's place without changing the form.
FAMILIES = (Maker.NAMES + ("s", "t", "u"), ("add", "sub", "mul", "div", "mod", "glue", "eq", "lt", "le", "and", "or", "else"),
            ("size", "not", "there"), ("where", "with"), ("first", "pick"), ("count", "there", "sum", "min", "max"),
            ("inner", "left", "semi", "anti"), Maker.KINDS)


def replaced(item, path, new):
    """The item with another one at this path of indexes."""
    if not path:
        return new
    at = path[0]
    return item[:at] + (replaced(item[at], path[1:], new),) + item[at + 1:]
