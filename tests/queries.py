"""Random simple plans. A query tells what a simple plan asks for; it can be written as a plan in many ways.

Nothing here comes from the package but the limits of plans. An end is a cell, (place, name), or a value, (value,).
"""

import itertools
import random
from collections import Counter

from labelframes.forms import plan_fault

SCHEMAS = (("r", (("a", "int"), ("b", "int"))), ("t", (("c", "int"), ("d", "text"), ("e", "bool"))), ("u", (("f", "text"),)))
COLUMNS = {source: dict(schema) for source, schema in SCHEMAS}
HEAD_NAMES = ("x", "y", "z")


class Query:
    """The sources of the places, pairs of ends that are tied, and the cells of the result columns."""

    def __init__(self, sources, equations, head):
        self.sources = tuple(sources)
        self.equations = tuple(equations)
        self.head = tuple(head)

    def cells(self):
        """All cells."""
        return [(place, name) for place, source in enumerate(self.sources) for name in COLUMNS[source]]

    def kind(self, cell):
        """The kind of a cell."""
        return COLUMNS[self.sources[cell[0]]][cell[1]]

    def tied(self, cell):
        """The set of all ends that are tied to a cell, and the cell itself."""
        found = {cell}
        while True:
            wider = found.union(*[{one, other} for one, other in self.equations if one in found or other in found])
            if wider == found:
                return found
            found = wider

    def is_bound(self, cell):
        """Whether the slot of a cell is bound."""
        return any(cell in equation for equation in self.equations)

    def is_void(self):
        """Whether a slot is tied to two values."""
        return any(len([end for end in self.tied(cell) if len(end) == 1]) > 1 for cell in self.cells())


def maps(mapping, one, other):
    """Whether a mapping of places is one as in point 19."""
    def image(end):
        return end if len(end) == 1 else (mapping[end[0]], end[1])
    if [other.sources[place] for place in mapping] != list(one.sources):
        return False
    for cell in one.cells():
        if {image(end) for end in one.tied(cell)} != other.tied(image(cell)):
            return False
        if one.is_bound(cell) != other.is_bound(image(cell)):
            return False
    return len(one.head) == len(other.head) and all(image(x) in other.tied(y) for x, y in zip(one.head, other.head))


def correspond(one, other):
    """Whether two queries correspond."""
    if one.is_void() or other.is_void():
        return one.is_void() and other.is_void()
    if len(one.sources) != len(other.sources):
        return False
    return any(maps(mapping, one, other) for mapping in itertools.permutations(range(len(one.sources))))


class Writer:
    """Makes random queries, and random plans of them; the same ones for the same seed."""

    def __init__(self, seed):
        self.random = random.Random(seed)

    def mixed(self, things):
        """These things in any sequence."""
        things = list(things)
        return self.random.sample(things, len(things))

    def value(self, kind):
        """A value that may be tied."""
        return self.random.choice((0, 1) if kind == "int" else ("0", "x"))

    def query(self, kinds=("int",), most=5):
        """A query whose places hang together, with a result of columns of these kinds."""
        while True:
            sources = [self.random.choice("rrrttu") for _ in range(self.random.randint(1, most))]
            query = Query(sources, (), ())
            ties = []
            for place in range(1, len(sources)):
                pairs = [(x, y) for x in query.cells() for y in query.cells() if x[0] < y[0] == place and self.may_tie(query, x, y)]
                if not pairs:
                    break
                ties.append(self.random.choice(pairs))
            else:
                ties += [self.equation(query) for _ in range(self.random.choice((0, 0, 1, 1, 2)))]
                head = [[cell for cell in query.cells() if query.kind(cell) == kind] for kind in kinds]
                if all(head):
                    return Query(sources, ties, [self.random.choice(cells) for cells in head])

    def may_tie(self, query, one, other):
        """Whether two cells may be tied."""
        return query.kind(one) == query.kind(other) != "bool"

    def equation(self, query):
        """A further equation."""
        one = self.random.choice([cell for cell in query.cells() if query.kind(cell) != "bool"])
        if self.random.random() < 0.4:
            return one, (self.value(query.kind(one)),)
        return one, self.random.choice([cell for cell in query.cells() if self.may_tie(query, one, cell)])

    def bent(self, query):
        """A query with one thing otherwise, or none if nothing comes of it."""
        sources, equations, head = list(query.sources), list(query.equations), list(query.head)
        what = self.random.randrange(4)
        if what == 0 and equations:
            equations.pop(self.random.randrange(len(equations)))
        elif what == 1:
            equations.append(self.equation(query))
        elif what == 2:
            at = self.random.randrange(len(head))
            head[at] = self.random.choice([cell for cell in query.cells() if query.kind(cell) == query.kind(head[at])])
        elif what == 3 and len(sources) < 5:
            sources.append(self.random.choice("rt"))
            wider = Query(sources, equations, head)
            new = [cell for cell in wider.cells() if cell[0] == len(sources) - 1]
            pairs = [(x, y) for x in query.cells() for y in new if self.may_tie(wider, x, y)]
            if pairs:
                equations.append(self.random.choice(pairs))
        return Query(sources, equations, head)

    def plan(self, query):
        """A plan of a query, or None if there was no luck."""
        for _ in range(20):
            plan = self.attempt(query)
            if plan is not None and plan_fault(plan) is None:
                return plan
        return None

    def attempt(self, query):
        """The same; the plan may be too large."""
        order = [self.random.randrange(len(query.sources))]
        plan, columns = self.place(query, order[0])
        ties = []
        while len(order) < len(query.sources):
            found = self.further(query, order, columns)
            if found is None:
                return None
            place, pairs = found
            order.append(place)
            right, added = self.place(query, place)
            plan = ("join", plan, right, tuple((columns[x], added[y]) for x, y in pairs), "inner")
            ties += pairs
            columns.update({cell: name for cell, name in added.items() if cell not in [y for _, y in pairs]})
        return self.finished(query, plan, columns, ties)

    def place(self, query, place):
        """A scan whose columns have names of their own, and these names by the cells."""
        plan = ("scan", query.sources[place])
        names = {cell: "klmno"[place] + cell[1] for cell in query.cells() if cell[0] == place}
        for cell in self.mixed(names):
            plan = ("rename", plan, cell[1], names[cell])
        return plan, names

    def further(self, query, order, columns):
        """A place that is tied to those in `order`, and pairs by which it can be joined."""
        places = [place for place in range(len(query.sources)) if place not in order]
        for place in self.mixed(places):
            pairs = [(x, y) for x in columns for y in query.tied(x) if len(y) == 2 and y[0] == place]
            pairs = [pair for pair in self.mixed(sorted(pairs))]
            chosen = []
            for x, y in pairs:
                if (not chosen or self.random.random() < 0.4) and not any(x == one or y == other for one, other in chosen):
                    chosen.append((x, y))
            if chosen:
                return place, chosen
        return None

    def finished(self, query, plan, columns, ties):
        """The plan with the conditions that are missing, and the result columns."""
        equations = []
        for slot in {tuple(sorted(map(repr, query.tied(cell)))): query.tied(cell) for cell in query.cells()}.values():
            equations += self.conditions(query, [end for end in slot if len(end) == 2], [end for end in slot if len(end) == 1],
                                         columns, ties)
        if equations:
            plan = self.filtered(plan, self.mixed(equations))
        picked = []
        for cell in query.head:
            left = [columns[end] for end in sorted(end for end in query.tied(cell) if len(end) == 2 and end in columns)
                    if columns[end] not in picked]
            if not left:
                return None
            picked.append(self.random.choice(left))
        plan = ("pick", plan, tuple(picked))
        for old, new in self.mixed(zip(picked, HEAD_NAMES)):
            plan = ("rename", plan, old, new)
        return plan

    def conditions(self, query, cells, values, columns, ties):
        """The equations that a slot still needs, as expressions."""
        left = self.mixed(sorted(cell for cell in cells if cell in columns))
        pairs = list(zip(left, left[1:]))
        # A pair of cells that are tied already may be left out if no other one hangs on it.
        if len(left) == 2 and tuple(left) in ties and self.random.random() < 0.5:
            pairs = []
        ends = [(("col", columns[x]), ("col", columns[y])) for x, y in pairs]
        ends += [(("col", columns[left[0]]), ("value", query.kind(left[0]), value)) for value, in sorted(values)]
        if not ends and len(cells) == 1 and query.is_bound(left[0]):
            ends.append((("col", columns[left[0]]),) * 2)
        if ends and self.random.random() < 0.2:
            ends.append(self.random.choice(ends))
        return [("eq", *self.mixed(pair)) for pair in ends]

    def filtered(self, plan, equations):
        """The plan with "where" for all equations."""
        if len(equations) > 1 and self.random.random() < 0.4:
            return self.filtered(("where", plan, equations[0]), equations[1:])
        return ("where", plan, self.together(equations))

    def together(self, equations):
        """An expression that asks for all equations."""
        if len(equations) == 1:
            return equations[0]
        at = self.random.randrange(1, len(equations))
        return ("and", self.together(equations[:at]), self.together(equations[at:]))

    def rows(self, schema):
        """Random rows of a schema."""
        choices = {"int": (None, 0, 1, 2), "text": (None, "0", "x"), "bool": (None, True, False)}
        return tuple(tuple(self.random.choice(choices[kind]) for _, kind in schema) for _ in range(self.random.randint(0, 4)))


def bag(rows):
    """How often each row comes; 1 and True are different."""
    return Counter(map(repr, rows))
