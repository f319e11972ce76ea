"""The rows that simple plans give, and how often, as the checker sees it."""


def counts_of_rows(plan, known, data):
    """For each row of the result of a simple plan how often it comes; the rows are tuples of values.

    `known` has the schemas of the sources by their names, and `data` their rows.
    """
    _, counts = table_of(plan, known, data)
    return counts


def counted_rows(pairs):
    """For each row of pairs (row, number) the sum of the numbers."""
    counts = {}
    for row, number in pairs:
        counts[row] = counts.get(row, 0) + number
    return counts


def table_of(plan, known, data):
    """The list of the names of the columns of a simple plan, and how often each row comes."""
    if plan[0] == "scan":
        return [name for name, _ in known[plan[1]]], counted_rows([(row, 1) for row in data[plan[1]]])
    names, counts = table_of(plan[1], known, data)
    if plan[0] == "rename":
        return [plan[3] if name == plan[2] else name for name in names], counts
    if plan[0] == "where":
        return names, {row: counts[row] for row in counts if is_met(plan[2], names, row)}
    if plan[0] == "pick":
        chosen = [names.index(name) for name in plan[2]]
        return list(plan[2]), counted_rows([(taken(row, chosen), counts[row]) for row in counts])
    others, added = table_of(plan[2], known, data)
    return joined_table(plan[3], (names, counts), (others, added))


def taken(row, chosen):
    """The tuple of the values of a row at the chosen indexes."""
    return tuple([row[at] for at in chosen])


def is_met(test, names, row):
    """Whether an "and" of "eq", at all levels, is true for a row."""
    if test[0] == "and":
        return is_met(test[1], names, row) and is_met(test[2], names, row)
    one, other = [row[names.index(part[1])] if part[0] == "col" else part[2] for part in test[1:]]
    return one is not None and one == other


def joined_table(pairs, left, right):
    """The table of an inner "join" of two tables."""
    names, counts = left
    others, added = right
    by_left = [names.index(one) for one, _ in pairs]
    by_right = [others.index(other) for _, other in pairs]
    kept = [at for at in range(len(others)) if at not in by_right]
    groups = {}
    for row in added:
        groups.setdefault(taken(row, by_right), []).append(row)
    found = []
    for row in counts:
        key = taken(row, by_left)
        if None not in key:
            found.extend([((*row, *taken(other, kept)), counts[row] * added[other]) for other in groups.get(key, [])])
    return [*names, *[others[at] for at in kept]], counted_rows(found)
