"""Points 16 and 17, written down as plainly as can be; a row is a dict here, and an origin a set."""

import functools

from tests import oracle


def origins_of(plan, house):
    """The pairs (row, origin) of a plan; `house` is a dict of tables (schema, dicts)."""
    word, *rest = plan
    if word == "scan":
        return [(row, {(rest[0], at)}) for at, row in enumerate(house[rest[0]][1])]
    p = origins_of(rest[0], house)
    if word in ("stack", "join"):
        schema = oracle.schema_of(rest[1], {name: table[0] for name, table in house.items()})
        return of_two(word, p, origins_of(rest[1], house), schema, *rest[2:])
    if word == "sort":
        compare = oracle.order(rest[1])
        return sorted(p, key=functools.cmp_to_key(lambda one, other: compare(one[0], other[0])))
    if word == "slice":
        return p[rest[1]:] if rest[2] is None else p[rest[1]:rest[1] + rest[2]]
    if word == "first":
        return [pair for at, pair in enumerate(p) if not any(oracle.alike(pair[0], other, rest[1]) for other, _ in p[:at])]
    if word == "group":
        return grouped(p, rest[1], made(plan, p))
    if word == "melt":
        pairs = [pair for pair in p for _ in rest[2]]
        return list(zip(made(plan, p), [origin for _, origin in pairs]))
    if word == "where":
        return [pair for pair in p if oracle.value(rest[1], pair[0]) is True]
    return list(zip(made(plan, p), [origin for _, origin in p]))


def made(plan, pairs):
    """The rows that a node makes of rows of its input."""
    return oracle.rows_of((plan[0], ("scan", "input"), *plan[2:]), {"input": (None, [row for row, _ in pairs])})


def grouped(pairs, names, rows):
    """The rows of a "group" with their origins."""
    found = []
    for row in rows:
        parts = [origin for other, origin in pairs if oracle.alike(row, other, names)]
        found.append((row, set().union(*parts)))
    return found


def of_two(word, p, q, schema, pairs=(), how=None):
    """The same for a "stack" or a "join"."""
    if word == "stack":
        return p + q
    found = []
    for row, origin in p:
        matching = [(other, more) for other, more in q if all(row[x] is not None and row[x] == other[y] for x, y in pairs)]
        rows = oracle.rows_of_two(word, [row], [other for other, _ in q], schema, pairs, how)
        if how == "anti" or not matching:
            found += [(made_row, origin) for made_row in rows]
        else:
            found += list(zip(rows, [origin | more for _, more in matching]))
    return found


def nodes_of(plan, above=0):
    """Each node of a plan, and how many "group" and "first" are above it."""
    yield plan, above
    many = {"scan": 0, "stack": 2, "join": 2}.get(plan[0], 1)
    for inner in plan[1:1 + many]:
        yield from nodes_of(inner, above + (plan[0] in ("group", "first")))


def is_narrowable(plan):
    """Whether a plan is narrowable."""
    nodes = list(nodes_of(plan))
    scans = [node[1] for node, _ in nodes if node[0] == "scan"]
    if len(set(scans)) < len(scans):
        return False
    for node, above in nodes:
        if node[0] in ("slice", "running") or node[0] == "join" and node[4] in ("left", "anti"):
            return False
        if (node[0] == "melt" or node[0] == "join" and node[4] == "inner") and above > 1:
            return False
    return True
