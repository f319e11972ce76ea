"""What plans are about: their schemas, sources and nodes; and Pipe, with which they are written."""

from labelframes.errors import InvalidName, InvalidPlan, NotAPipe
from labelframes.expressions import check_expr
from labelframes.fitting import schema_within
from labelframes.forms import check_plan, steps_of
from labelframes.notation import node_text, read_plan
from labelframes.paths import check_path, node_within
from labelframes.running import run
from labelframes.values import check_schemas, is_name, is_pair


def schema_of(plan, schemas):
    """The schema of a plan with these schemas."""
    check_plan(plan)
    check_schemas(schemas)
    return schema_within(plan, schemas)


def sources_of(plan):
    """The ascending tuple of the sources that a plan scans."""
    check_plan(plan)
    return tuple(sorted({node[1] for node in steps_of(plan) if node[0] == "scan"}))


def node_at(plan, path):
    """The plan that stands in a plan at this path."""
    check_plan(plan)
    check_path(path, plan)
    return node_within(plan, path)


class Pipe:
    """A plan, from which others are made step by step."""

    def __init__(self, plan):
        check_plan(plan)
        self._plan = plan

    @staticmethod
    def scan(source):
        """The Pipe that gives the frame of a source."""
        if not is_name(source):
            raise InvalidName(source)
        return Pipe(("scan", source))

    @classmethod
    def read(cls, text):
        """The Pipe with this text."""
        return cls(read_plan(text))

    @property
    def plan(self):
        """The plan."""
        return self._plan

    def where(self, expr):
        """Keeps the rows for which an Expr is true."""
        check_expr(expr)
        return Pipe(("where", self._plan, expr.tree))

    def with_column(self, name, expr):
        """Gives a column the values of an Expr."""
        check_expr(expr)
        return Pipe(("with", self._plan, name, expr.tree))

    def pick(self, *names):
        """Keeps these columns, in this sequence."""
        return Pipe(("pick", self._plan, names))

    def first(self, *names):
        """Keeps the first ones of the rows that have alike values in these columns."""
        return Pipe(("first", self._plan, names))

    def rename(self, old, new):
        """Gives a column another name."""
        return Pipe(("rename", self._plan, old, new))

    def slice(self, start, count=None):
        """Keeps so many rows from an index on."""
        return Pipe(("slice", self._plan, start, count))

    def sorted_by(self, *names, up=True):
        """Sorts the rows by these columns, all in one direction."""
        return Pipe(("sort", self._plan, tuple([(name, up) for name in names])))

    def joined(self, other, *pairs, how="inner"):
        """Joins the rows with those of another Pipe; a name stands for the pair of it and itself."""
        check_pipe(other)
        together = tuple([(pair, pair) if isinstance(pair, str) else pair for pair in pairs])
        return Pipe(("join", self._plan, other.plan, together, how))

    def group(self, *names, **sums):
        """Makes one row of each group; an argument by name is a pair of a function and a name."""
        for new in sorted(sums):
            if not is_pair(sums[new]):
                raise InvalidPlan(())
        return Pipe(("group", self._plan, names, tuple([(new, *sums[new]) for new in sorted(sums)])))

    def running(self, new, function, name, *by):
        """Adds a column with the value of a function for each row and those before it."""
        return Pipe(("running", self._plan, new, function, name, by))

    def melt(self, label, value, *names, keep=()):
        """Makes a row of each value of these columns, with the name of the column as a label."""
        return Pipe(("melt", self._plan, keep, names, label, value))

    def __add__(self, other):
        return Pipe(("stack", self._plan, other.plan))

    def __call__(self, house):
        return run(self._plan, house)

    def __len__(self):
        return len(steps_of(self._plan))

    def __eq__(self, other):
        return isinstance(other, Pipe) and self._plan == other._plan

    def __str__(self):
        return str(node_text(self._plan))

    def __repr__(self):
        return f"Pipe({len(steps_of(self._plan))} nodes)"


def check_pipe(pipe):
    """Raises NotAPipe if a value is not a Pipe."""
    if not isinstance(pipe, Pipe):
        raise NotAPipe(pipe)
