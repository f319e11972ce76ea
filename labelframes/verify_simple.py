"""Simple plans and what their places are mapped to, as the checker sees it."""

from labelframes.verify_forms import nodes_in
from labelframes.verify_values import is_number, is_tuple_of


class Query:
    """What a plan of the forms of simple plans asks for.

    `places` are the sources of its places, `cells` all cells, which are pairs of a place and a name, `equations` the
    pairs of ends that are tied, `head` the cells of the result. An end is a cell, or a tuple with a value alone.
    `is_simple` is False if an expression or a kind is not as in simple plans.
    """

    def __init__(self, plan, known):
        self.known = known
        self.places = []
        self.cells = []
        self.equations = []
        self.is_simple = True
        columns = self.columns_of_plan(plan)
        self.head = [columns[name][0] for name in columns]
        if any([columns[name][1] == "bool" for name in columns]):
            self.is_simple = False

    def columns_of_plan(self, plan):
        """For the name of each column of a plan its cell and its kind; its places and equations are kept."""
        if plan[0] == "scan":
            return self.columns_of_place(plan[1])
        columns = self.columns_of_plan(plan[1])
        if plan[0] == "pick":
            return {name: columns[name] for name in plan[2]}
        if plan[0] == "rename":
            return {plan[3] if name == plan[2] else name: columns[name] for name in columns}
        if plan[0] == "where":
            self.take_test(plan[2], columns)
            return columns
        others = self.columns_of_plan(plan[2])
        for one, other in plan[3]:
            self.take_equation([columns[one], others[other]])
        tied = [other for _, other in plan[3]]
        return {**columns, **{name: others[name] for name in others if name not in tied}}

    def columns_of_place(self, source):
        """The same for a further place."""
        place = len(self.places)
        self.places.append(source)
        self.cells.extend([(place, name) for name, _ in self.known[source]])
        return {name: ((place, name), kind) for name, kind in self.known[source]}

    def take_test(self, test, columns):
        """Keeps the equations of the expression of a "where"."""
        if test[0] == "and":
            self.take_test(test[1], columns)
            self.take_test(test[2], columns)
        elif test[0] == "eq" and "col" in (test[1][0], test[2][0]):
            self.take_equation([end_of_part(part, columns) for part in test[1:]])
        else:
            self.is_simple = False

    def take_equation(self, ends):
        """Keeps an equation of two ends, each with its kind; None is something that is not in simple plans."""
        if None in ends or any([kind == "bool" for _, kind in ends]):
            self.is_simple = False
        else:
            self.equations.append((ends[0][0], ends[1][0]))

    def tied_to(self, cell):
        """The list of all that a cell is tied to, and the cell itself."""
        found = [cell]
        at = 0
        while at < len(found):
            for one, other in self.equations:
                if found[at] == one and other not in found:
                    found.append(other)
                if found[at] == other and one not in found:
                    found.append(one)
            at += 1
        return found

    def slot_at(self, cell):
        """The slot of a cell: its cells in their order, the list of its values, and whether it is bound."""
        found = self.tied_to(cell)
        is_bound = any([cell in equation for equation in self.equations])
        return sorted([end for end in found if len(end) == 2]), [end[0] for end in found if len(end) == 1], is_bound

    def has_two_values(self):
        """Whether a slot is tied to two different values, so that the plan is void."""
        return any([len(self.slot_at(cell)[1]) > 1 for cell in self.cells])


def end_of_part(part, columns):
    """The end of an equation, and its kind, or None if the part is neither a column nor a value that is there."""
    if part[0] == "col":
        return columns[part[1]]
    return ((part[2],), part[1]) if part[0] == "value" and part[2] is not None else None


def has_simple_forms(plan):
    """Whether a plan consists of at most five "scan" and of the other forms of simple plans."""
    nodes = nodes_in(plan)
    forms = [node[4] if node[0] == "join" else node[0] for node in nodes]
    return all([form in ("scan", "pick", "rename", "where", "inner") for form in forms]) and forms.count("scan") <= 5


def simple_query(plan, known):
    """The query of a plan that has a schema, or None if it is not simple."""
    if not has_simple_forms(plan):
        return None
    query = Query(plan, known)
    return query if query.is_simple else None


def is_mapping(value, one, other):
    """Whether a value maps the places of a query to those of another one as in point 19."""
    many = len(one.places)
    if len(other.places) != many or not is_tuple_of(value, many) or not all([is_number(place) for place in value]):
        return False
    if sorted(value) != list(range(many)) or [other.places[place] for place in value] != one.places:
        return False
    for cell in one.cells:
        cells, worths, is_bound = one.slot_at(cell)
        images = sorted([(value[place], name) for place, name in cells])
        if (images, worths, is_bound) != other.slot_at((value[cell[0]], cell[1])):
            return False
    pairs = list(zip(one.head, other.head))
    return all([(value[cell[0]], cell[1]) in other.tied_to(image) for cell, image in pairs])
