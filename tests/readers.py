"""Point 15, written down as plainly as can be: nodes that are asked for a row and ask their inputs for theirs.

A row is a dict here. What a node makes of rows comes from tests/oracle.py.
"""

from tests import oracle


def outcome(plan, feeds):
    """All that happens when a plan is run on demand to its end: the asks (source, index) and the rows, in sequence."""
    happened = []
    schemas = {name: feed[0] for name, feed in feeds.items()}
    names = [name for name, _ in oracle.schema_of(plan, schemas)]
    node = Node(plan, feeds, happened)
    row = node.ask()
    while row is not None:
        happened.append(tuple(row[name] for name in names))
        row = node.ask()
    return happened


class Node:
    """A node of a plan while it runs."""

    def __init__(self, plan, feeds, happened):
        self.word = plan[0]
        self.plan = plan
        self.feeds = feeds
        self.happened = happened
        self.schemas = {name: feed[0] for name, feed in feeds.items()}
        many = {"scan": 0, "stack": 2, "join": 2}.get(self.word, 1)
        self.inputs = [Node(inner, feeds, happened) for inner in plan[1:1 + many]]
        self.has_ended = False
        self.waiting = []
        self.rows = None
        self.past = []
        self.returned = 0
        self.asked = 0

    def ask(self):
        """The next row, or None if the node has ended."""
        while not self.has_ended and not self.waiting:
            self.work()
        if self.waiting:
            self.returned += 1
            return self.waiting.pop(0)
        return None

    def all_of(self, node):
        """All rows of an input."""
        rows = []
        row = node.ask()
        while row is not None:
            rows.append(row)
            row = node.ask()
        return rows

    def made(self, *tables):
        """What the node makes of these rows of its inputs."""
        house = {f"in{at}": (oracle.schema_of(self.plan[1 + at], self.schemas), rows) for at, rows in enumerate(tables)}
        scans = tuple(("scan", name) for name in house)
        return oracle.rows_of((self.word, *scans, *self.plan[1 + len(tables):]), house)

    def work(self):
        """Asks once, or for all, and finds out which rows there are to return."""
        if self.word == "scan":
            self.read()
        elif self.word == "slice":
            self.cut()
        elif self.word == "stack":
            row = self.inputs[0].ask()
            self.take(self.inputs[1].ask() if row is None else row)
        elif self.word in ("sort", "group"):
            self.waiting = self.made(self.all_of(self.inputs[0]))
            self.has_ended = True
        elif self.word == "join":
            if self.rows is None:
                self.rows = self.all_of(self.inputs[1])
            row = self.inputs[0].ask()
            self.has_ended = row is None
            self.waiting = [] if row is None else self.made([row], self.rows)
        else:
            self.step()

    def take(self, row):
        """Has a row to return, or ends."""
        if row is None:
            self.has_ended = True
        else:
            self.waiting.append(row)

    def read(self):
        """Calls the function of the feed."""
        schema, function = self.feeds[self.plan[1]]
        self.happened.append((self.plan[1], self.asked))
        row = function(self.asked)
        self.asked += 1
        self.take(None if row is None else dict(zip([name for name, _ in schema], row)))

    def cut(self):
        """The work of a "slice"."""
        _, _, start, count = self.plan
        if count is not None and self.returned == count:
            self.has_ended = True
            return
        row = self.inputs[0].ask()
        self.asked += 1
        if row is None or self.asked > start:
            self.take(row)

    def step(self):
        """The work of the other forms, which ask for a row and return what it adds to those before it."""
        row = self.inputs[0].ask()
        if row is None:
            self.has_ended = True
            return
        before = len(self.made(self.past))
        self.past.append(row)
        self.waiting = self.made(self.past)[before:]
