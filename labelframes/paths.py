"""Paths to the nodes of plans."""

from labelframes.errors import InvalidPath
from labelframes.forms import inputs_of
from labelframes.values import is_index


def is_path(value):
    """Whether a value is a tuple of 0 and 1."""
    return isinstance(value, tuple) and all([is_index(turn, 2) for turn in value])


def node_within(plan, path):
    """The node of a plan at this path, or None if there is none."""
    node = plan
    for turn in path:
        inputs = inputs_of(node)
        if turn >= len(inputs):
            return None
        node = inputs[turn]
    return node


def check_path(path, plan):
    """Raises InvalidPath if a value is not a path to a node of the plan."""
    if not is_path(path) or node_within(plan, path) is None:
        raise InvalidPath(path)


def paths_of(plan):
    """The list of the paths to all nodes of a plan, each before those of its inputs."""
    deeper = [(turn, *path) for turn, node in enumerate(inputs_of(plan)) for path in paths_of(node)]
    return [(), *deeper]


def placed(plan, path, node):
    """The plan in which a node stands at this path, in the place of the one that was there."""
    if len(path) == 0:
        return node
    # The inputs are the first items behind the word.
    at = path[0] + 1
    return (*plan[:at], placed(plan[at], path[1:], node), *plan[at + 1:])
