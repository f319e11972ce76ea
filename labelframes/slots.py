"""What a simple plan asks of its data: its places, the slots into which their cells fall, and its result columns.

A cell is a pair of a place and the name of a column. What a cell is tied to, another cell or a value, is called an end
here; the end of a value is a tuple with the value alone, so that it cannot be taken for a cell.
"""

from labelframes.fitting import schema_within, source_schema
from labelframes.forms import columns_within, inputs_of, steps_of
from labelframes.values import kinds_of, names_of

MOST_PLACES = 5
SIMPLE_FORMS = ("scan", "pick", "rename", "where", "join")


class Shape:
    """The sources of the places; for each cell its slot, a number; for each slot with values these values; for each
    bound slot True; the slots of the result columns; and whether the plan is void.
    """

    def __init__(self, sources, slots, worths, bound, head):
        self.sources = sources
        self.slots = slots
        self.worths = worths
        self.bound = bound
        self.head = head
        self.is_void = any([len(worths[slot]) > 1 for slot in worths])


def is_simple_within(plan, schemas):
    """Whether a plan that has a schema is simple."""
    nodes = steps_of(plan)
    if not all([node[0] in SIMPLE_FORMS for node in nodes]):
        return False
    if len([node for node in nodes if node[0] == "scan"]) > MOST_PLACES:
        return False
    if any([kind == "bool" for _, kind in schema_within(plan, schemas)]):
        return False
    return all([is_simple_node(node, schemas) for node in nodes])


def is_simple_node(node, schemas):
    """Whether a node of one of the simple forms asks only for what a simple plan may ask for."""
    if node[0] == "where":
        if not all([is_equality(part) for part in conditions_of(node[2])]):
            return False
        names = columns_within(node[2])
    elif node[0] == "join":
        if node[4] != "inner":
            return False
        names = [one for one, _ in node[3]]
    else:
        return True
    kinds = kinds_of(schema_within(node[1], schemas))
    return not any([kinds[name] == "bool" for name in names])


def conditions_of(expression):
    """The list of the expressions that an expression joins by "and", at all levels."""
    if expression[0] != "and":
        return [expression]
    return [*conditions_of(expression[1]), *conditions_of(expression[2])]


def is_equality(expression):
    """Whether an expression is an "eq" of two columns, or of a column and a value that is not missing."""
    if expression[0] != "eq":
        return False
    parts = expression[1:]
    if any([part[0] not in ("col", "value") or part[-1] is None for part in parts]):
        return False
    return any([part[0] == "col" for part in parts])


def shape_of(plan, schemas):
    """The shape of a simple plan."""
    sources, cells, ties = gathered(plan, schemas, 0)
    every = [(place, name) for place, source in enumerate(sources) for name in names_of(source_schema(source, schemas))]
    numbers = numbers_of([*every, *[end for tie in ties for end in tie]], ties)
    worths = {}
    for end in numbers:
        if len(end) == 1:
            worths.setdefault(numbers[end], []).append(end[0])
    bound = {numbers[one]: True for one, _ in ties}
    slots = {cell: numbers[cell] for cell in every}
    return Shape(sources, slots, worths, bound, [numbers[cells[name]] for name in cells])


def gathered(plan, schemas, start):
    """The sources of the places of a simple plan, whose first place has the number `start`, the cells of its columns by
    their names, and its ties, which are pairs of ends.
    """
    if plan[0] == "scan":
        return [plan[1]], {name: (start, name) for name in names_of(source_schema(plan[1], schemas))}, []
    if plan[0] == "join":
        return gathered_join(plan, schemas, start)
    sources, cells, ties = gathered(plan[1], schemas, start)
    if plan[0] == "pick":
        return sources, {name: cells[name] for name in plan[2]}, ties
    if plan[0] == "rename":
        return sources, {plan[3] if name == plan[2] else name: cells[name] for name in cells}, ties
    equal = [(end_of(one, cells), end_of(other, cells)) for _, one, other in conditions_of(plan[2])]
    return sources, cells, [*ties, *equal]


def gathered_join(plan, schemas, start):
    """The same for a "join"."""
    left, right = inputs_of(plan)
    sources, cells, ties = gathered(left, schemas, start)
    others, added, more = gathered(right, schemas, start + len(sources))
    equal = [(cells[one], added[other]) for one, other in plan[3]]
    for _, other in plan[3]:
        del added[other]
    return [*sources, *others], {**cells, **added}, [*ties, *more, *equal]


def end_of(part, cells):
    """The end that a part of an "eq" stands for."""
    return cells[part[1]] if part[0] == "col" else (part[2],)


def numbers_of(ends, ties):
    """For each end a number below their count; two ends have the same one exactly if they are tied."""
    numbers = {end: number for number, end in enumerate(ends)}
    for one, other in ties:
        kept, gone = numbers[one], numbers[other]
        numbers = {end: kept if numbers[end] == gone else numbers[end] for end in numbers}
    return numbers
