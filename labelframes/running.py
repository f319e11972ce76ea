"""Running plans."""

from labelframes.fitting import schema_within
from labelframes.forms import check_plan
from labelframes.frames import Frame, House, check_house
from labelframes.results import result_within


def run(plan, house):
    """The result of a plan over the frames of a house."""
    check_plan(plan)
    check_house(house)
    # A plan with an error anywhere in it is not run in part.
    schema_within(plan, house.schemas)
    schema, rows = result_within(plan, house)
    return Frame(schema, tuple(rows))


def result(the_plan, **frames):
    """The result of a plan over these frames."""
    check_plan(the_plan)
    return run(the_plan, House(**frames))
