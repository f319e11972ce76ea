"""Simple plans, for which it can be told whether they give the same rows, each as often, for all data."""

from labelframes.errors import DifferentSchemas, NotSimple
from labelframes.fitting import schema_within
from labelframes.forms import check_plan
from labelframes.slots import is_simple_within, shape_of
from labelframes.values import check_schemas
from labelframes.witnesses import witness


def is_simple(plan, schemas):
    """Whether a plan is simple."""
    check_plan(plan)
    check_schemas(schemas)
    schema_within(plan, schemas)
    return is_simple_within(plan, schemas)


def correspondence(plan, other, schemas):
    """The places of the other plan to which those of the plan are mapped, () if both are void, or None."""
    check_both(plan, other, schemas)
    return mapping_between(shape_of(plan, schemas), shape_of(other, schemas))


def alike(plan, other, schemas):
    """Whether two simple plans give the same rows, each as often, for all data."""
    check_both(plan, other, schemas)
    return mapping_between(shape_of(plan, schemas), shape_of(other, schemas)) is not None


def difference(plan, other, schemas):
    """A house for which two simple plans do not give the same rows as often, or None if there is none."""
    check_both(plan, other, schemas)
    one, two = shape_of(plan, schemas), shape_of(other, schemas)
    return witness(one, two, schemas) if mapping_between(one, two) is None else None


def check_both(plan, other, schemas):
    """Raises the errors of two plans that are to be compared."""
    check_plan(plan)
    check_plan(other)
    check_schemas(schemas)
    wanted = schema_within(plan, schemas)
    found = schema_within(other, schemas)
    if not is_simple_within(plan, schemas) or not is_simple_within(other, schemas):
        raise NotSimple()
    if wanted != found:
        raise DifferentSchemas()


def mapping_between(one, other):
    """The mapping by which two shapes correspond, () if both are void, or None if they do not correspond."""
    if one.is_void or other.is_void:
        return () if one.is_void and other.is_void else None
    for mapping in mappings(one.sources, other.sources):
        if is_correspondence(mapping, one, other):
            return mapping
    return None


def mappings(sources, others):
    """The list of all tuples that map places with these sources one to one onto places with the others."""
    if len(sources) != len(others):
        return []
    found = [()]
    for source in sources:
        fitting = [place for place, other in enumerate(others) if other == source]
        found = [(*mapping, place) for mapping in found for place in fitting if place not in mapping]
    return found


def is_correspondence(mapping, one, other):
    """Whether a mapping of the places takes the slots of one shape to those of the other."""
    there = {}
    back = {}
    for place, name in one.slots:
        slot = one.slots[(place, name)]
        image = other.slots[(mapping[place], name)]
        if there.setdefault(slot, image) != image or back.setdefault(image, slot) != slot:
            return False
    for slot in there:
        if one.worths.get(slot) != other.worths.get(there[slot]):
            return False
        if (slot in one.bound) != (there[slot] in other.bound):
            return False
    return [there[slot] for slot in one.head] == other.head
