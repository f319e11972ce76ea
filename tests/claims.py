"""What the tests of the checker need: which claims are true, and claims with one thing otherwise."""

import random
import unittest

from labelframes.checker import accepts
from labelframes.errors import FindError, FrameError
from labelframes.frames import Frame, House
from labelframes.plans import schema_of
from labelframes.rewriting import RULES, rewritten
from labelframes.running import run
from labelframes.simple import is_correspondence, is_simple
from labelframes.slots import shape_of
from tests.cases import Odd
from tests.oracle import FAMILIES
from tests.queries import bag


def is_claim_true(claim, certificate):
    """What the checker has to answer, worked out by the rest of the package."""
    if type(claim) is not tuple or len(claim) != 4 or type(claim[0]) is not str:
        return False
    word, plan, other, schemas = claim
    try:
        columns = [schema_of(plan, schemas), schema_of(other, schemas)]
        if word == "rewritten":
            return rewritten(plan, certificate, schemas) == other
        if word not in ("alike", "unlike") or columns[0] != columns[1]:
            return False
        if not is_simple(plan, schemas) or not is_simple(other, schemas):
            return False
        return is_alike(claim, certificate) if word == "alike" else is_unlike(claim, certificate)
    except (FrameError, FindError):
        return False


def is_alike(claim, mapping):
    """The same for two simple plans and a mapping."""
    one, other = (shape_of(plan, claim[3]) for plan in claim[1:3])
    if one.is_void or other.is_void:
        return one.is_void and other.is_void and type(mapping) is tuple and mapping == ()
    many = len(one.sources)
    if type(mapping) is not tuple or len(mapping) != many or len(other.sources) != many:
        return False
    if [type(place) for place in mapping] != [int] * many or sorted(mapping) != list(range(many)):
        return False
    if [other.sources[place] for place in mapping] != list(one.sources):
        return False
    return is_correspondence(mapping, one, other)


def is_unlike(claim, data):
    """The same for two simple plans and rows."""
    if type(data) is not tuple or len(data) != len(claim[3]):
        return False
    house = House(**{name: Frame(schema, rows) for (name, schema), rows in zip(claim[3], data)})
    return bag(run(claim[1], house).rows) != bag(run(claim[2], house).rows)


def bent(value):
    """Values with one thing otherwise, at any depth."""
    if isinstance(value, tuple):
        yield list(value)
        for at, item in enumerate(value):
            yield value[:at] + value[at + 1:]
            yield value[:at] + (item,) + value[at:]
            yield value[:at] + value[at + 1:at + 2] + (item,) + value[at + 2:]
            for other in bent(item):
                yield value[:at] + (other,) + value[at + 1:]
        for more in ((), None, "a", 0):
            yield value + (more,)
        yield from ((), None, "a", value[:1] * 2)
    elif isinstance(value, str):
        families = [family for family in FAMILIES + (RULES, ("rewritten", "alike", "unlike"), ("col", "value")) if value in family]
        yield from (word for family in families for word in family if word != value)
        yield from ("", value.upper(), value + "z", value + " ", (value,), [value], None, 0, Odd(), "\n", "r", "t")
    elif isinstance(value, bool):
        yield from (not value, int(value), None, str(value))
    elif isinstance(value, int):
        yield from (value + 1, value - 1, -value, bool(value), not value, str(value), None, (value,), Odd())
    elif value is None:
        yield from (0, False, "", (), 1)


class CheckerCase(unittest.TestCase):
    def says(self, answer, claim, certificate):
        """Asks for an answer."""
        self.assertIs(accepts(claim, certificate), answer, (claim, certificate))

    def agrees(self, claim, certificate):
        """Asks for the answer that the rest of the package gives, and returns it."""
        answer = is_claim_true(claim, certificate)
        self.says(answer, claim, certificate)
        return answer

    def stands_alone(self, claim, certificate, seed=0, most=None):
        """Asks that a claim is taken, and whatever is otherwise only if it is true."""
        self.says(True, claim, certificate)
        pairs = [(other, certificate) for other in bent(claim)] + [(claim, other) for other in bent(certificate)]
        if most is not None and len(pairs) > most:
            pairs = random.Random(seed).sample(pairs, most)
        answers = [self.agrees(*pair) for pair in pairs]
        self.assertIn(False, answers)
        self.says(True, claim, certificate)
