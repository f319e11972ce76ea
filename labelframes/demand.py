"""Running plans on demand: rows are asked for one by one, and nothing is asked for earlier than it is needed."""

from labelframes.errors import InvalidFeed, InvalidName, InvalidNumber, InvalidRow
from labelframes.fitting import schema_within
from labelframes.forms import check_plan
from labelframes.results import NODE_ROWS, Joining, places_for, running_row, values_at
from labelframes.values import is_count, is_name, is_pair, is_row, is_schema, places_of

# The forms whose rows for a row of the input do not depend on the other rows, and those that need all rows at once.
ROW_BY_ROW = ("where", "pick", "rename", "with", "melt")
ALL_AT_ONCE = ("sort", "group")


def rows_of(the_plan, **feeds):
    """Yields the rows of the result of a plan; a feed is a pair of a schema and a function."""
    check_plan(the_plan)
    schemas = schemas_of_feeds(feeds)
    schema_within(the_plan, schemas)
    yield from rows_wanted(the_plan, schemas, feeds)


def chunks(the_plan, the_size, **feeds):
    """Yields the rows of the result of a plan in tuples of this size; the last one may be shorter."""
    check_plan(the_plan)
    if not is_count(the_size) or the_size == 0:
        raise InvalidNumber(the_size)
    schemas = schemas_of_feeds(feeds)
    schema_within(the_plan, schemas)
    chunk = []
    for row in rows_wanted(the_plan, schemas, feeds):
        chunk.append(row)
        if len(chunk) == the_size:
            yield tuple(chunk)
            chunk = []
    if len(chunk) > 0:
        yield tuple(chunk)


def schemas_of_feeds(feeds):
    """The schemas of feeds; raises InvalidName or InvalidFeed if one of them is none."""
    for name in sorted(feeds):
        if not is_name(name):
            raise InvalidName(name)
        if not is_pair(feeds[name]) or not is_schema(feeds[name][0]):
            raise InvalidFeed(name)
    return tuple([(name, feeds[name][0]) for name in sorted(feeds)])


def rows_wanted(plan, schemas, feeds):
    """Yields the rows of a plan that has a schema with those of the feeds."""
    word = plan[0]
    if word == "scan":
        yield from rows_read(plan, schemas, feeds)
    elif word == "slice":
        yield from rows_between(plan, schemas, feeds)
    elif word == "first":
        yield from rows_not_seen(plan, schemas, feeds)
    elif word == "running":
        yield from rows_with_totals(plan, schemas, feeds)
    elif word == "stack":
        yield from rows_of_both(plan, schemas, feeds)
    elif word == "join":
        yield from rows_of_join(plan, schemas, feeds)
    elif word in ALL_AT_ONCE:
        yield from rows_made_of_all(plan, schemas, feeds)
    elif word in ROW_BY_ROW:
        yield from rows_made_of_each(plan, schemas, feeds)


def places_below(plan, schemas):
    """The places of the columns of the only input of a plan."""
    return places_of(schema_within(plan[1], schemas))


def rows_read(plan, schemas, feeds):
    """Yields the rows of a "scan", and asks its function for each of them."""
    schema, ask = feeds[plan[1]]
    index = 0
    row = ask(index)
    while row is not None:
        if not is_row(row, schema):
            raise InvalidRow(index)
        yield row
        index += 1
        row = ask(index)


def rows_made_of_each(plan, schemas, feeds):
    """Yields the rows of a node that makes some rows, or none, of each row."""
    action = NODE_ROWS[plan[0]]
    inner = plan[1]
    places = places_below(plan, schemas)
    for row in rows_wanted(inner, schemas, feeds):
        made = action(plan, places, [row])
        yield from made


def rows_made_of_all(plan, schemas, feeds):
    """Yields the rows of a node that cannot tell the first one before it has all rows."""
    action = NODE_ROWS[plan[0]]
    inner = plan[1]
    places = places_below(plan, schemas)
    rows = list(rows_wanted(inner, schemas, feeds))
    made = action(plan, places, rows)
    yield from made


def rows_between(plan, schemas, feeds):
    """Yields the rows of a "slice"; what is behind the last one is not asked for."""
    _, inner, start, count = plan
    if count == 0:
        return
    asked = 0
    for row in rows_wanted(inner, schemas, feeds):
        asked += 1
        if asked > start:
            yield row
        if count is not None and asked == start + count:
            return


def rows_not_seen(plan, schemas, feeds):
    """Yields the rows of a "first"."""
    _, inner, names = plan
    chosen = places_for(names, places_below(plan, schemas))
    seen = {}
    for row in rows_wanted(inner, schemas, feeds):
        key = values_at(row, chosen)
        if key not in seen:
            seen[key] = True
            yield row


def rows_with_totals(plan, schemas, feeds):
    """Yields the rows of a "running"."""
    inner = plan[1]
    places = places_below(plan, schemas)
    totals = {}
    for row in rows_wanted(inner, schemas, feeds):
        yield running_row(plan, places, totals, row)


def rows_of_both(plan, schemas, feeds):
    """Yields the rows of a "stack"."""
    _, left, right = plan
    yield from rows_wanted(left, schemas, feeds)
    yield from rows_wanted(right, schemas, feeds)


def rows_of_join(plan, schemas, feeds):
    """Yields the rows of a "join"; the right input is read to its end before the left one is asked."""
    _, left, right, _, _ = plan
    rows = list(rows_wanted(right, schemas, feeds))
    joining = Joining(plan, [schema_within(left, schemas), schema_within(right, schemas)], rows)
    for row in rows_wanted(left, schemas, feeds):
        joined = joining.rows_for(row)
        yield from joined
