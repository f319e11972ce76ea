"""Which rows of the data the rows of a result come from."""

from labelframes.fitting import schema_within
from labelframes.forms import check_plan, inputs_of
from labelframes.frames import Frame, House, check_house
from labelframes.results import Joining, grouped, places_for, rows_behind
from labelframes.values import places_of

# The forms whose rows are some of the rows of their input, as they are.
CHOOSING = ("where", "sort", "slice", "first")


def origins(plan, house):
    """The tuple of the origins of the rows of the result of a plan."""
    check_plan(plan)
    check_house(house)
    schema_within(plan, house.schemas)
    _, found = traced(plan, house)
    return tuple(found)


def narrowed(house, origin):
    """The house in which only the rows of an origin are left."""
    check_house(house)
    left = {pair: True for pair in origin}
    frames = {}
    for name in house.names:
        rows = house[name].rows
        kept = [row for index, row in enumerate(rows) if (name, index) in left]
        frames[name] = Frame(house[name].schema, tuple(kept))
    return House(**frames)


def traced(plan, house):
    """The rows that a plan gives, and the list of their origins."""
    if plan[0] == "scan":
        rows = house[plan[1]].rows
        return rows, [((plan[1], index),) for index in range(len(rows))]
    inputs = [traced(node, house) for node in inputs_of(plan)]
    schemas = [schema_within(node, house.schemas) for node in inputs_of(plan)]
    rows = [pair[0] for pair in inputs]
    return rows_behind(plan, schemas, rows), origins_behind(plan, schemas, rows, [pair[1] for pair in inputs])


def origins_behind(node, schemas, rows, found):
    """The list of the origins of the rows of a node, whose inputs have these schemas, rows and origins."""
    if node[0] == "stack":
        return [*found[0], *found[1]]
    if node[0] == "join":
        return join_origins(node, schemas, rows, found)
    if node[0] == "group":
        groups = grouped(numbered(rows[0]), places_for(node[2], places_of(schemas[0])))
        return [together([found[0][row[-1]] for row in groups[key]]) for key in groups]
    if node[0] == "melt":
        return [origin for origin in found[0] for _ in node[3]]
    if node[0] in CHOOSING:
        return [found[0][row[-1]] for row in rows_behind(node, schemas, [numbered(rows[0])])]
    return found[0]


def numbered(rows):
    """The list of the rows, each with its index as a further value."""
    return [(*row, index) for index, row in enumerate(rows)]


def together(several):
    """The origin that is made of several ones."""
    pairs = [pair for origin in several for pair in origin]
    return tuple(sorted(set(pairs)))


def join_origins(node, schemas, rows, found):
    """The list of the origins of the rows of a "join"."""
    joining = Joining(node, schemas, numbered(rows[1]))
    made = []
    for row, origin in zip(rows[0], found[0]):
        others = [found[1][other[-1]] for other in joining.matching(row)]
        made.extend(origins_joined(node[4], origin, others))
    return made


def origins_joined(how, origin, others):
    """The list of the origins that there are for a row of the left input and the origins of those that match it."""
    if how == "anti":
        return [origin] if len(others) == 0 else []
    if how == "left" and len(others) == 0:
        return [origin]
    matching = others[:1] if how == "semi" else others
    return [together([origin, other]) for other in matching]
