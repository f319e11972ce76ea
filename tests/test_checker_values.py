"""Tests of labelframes.checker: any values at all, none of which raises an error."""

import random
import unittest

from labelframes.certificates import certify_alike, certify_best
from labelframes.checker import accepts
from tests.cases import A, ANY_VALUES, S, YES, Odd
from tests.claims import CheckerCase
from tests.oracle import replaced
from tests.test_rules import P, SCHEMAS
from tests.test_simple import SA, copies, eq, number, where
from tests.test_simple import SCHEMAS as SIMPLE_SCHEMAS


class Raises:
    """A value that raises an error whatever is done with it."""

    def __getattribute__(self, name):
        raise RuntimeError(name)

    def fail(self, *args):
        raise RuntimeError("mine")

    __eq__ = __ne__ = __hash__ = __len__ = __iter__ = __bool__ = __getitem__ = __contains__ = __repr__ = __lt__ = __call__ = fail


class Spoofs:
    """A value that calls itself a tuple of four."""

    __class__ = tuple

    def __len__(self):
        return 4

    def __getitem__(self, at):
        return "alike"


class Words(str):
    """A string that is equal to nothing without an error."""

    def __eq__(self, other):
        raise RuntimeError("mine")

    __hash__ = str.__hash__


class Many(tuple):
    """A tuple without a length."""

    def __len__(self):
        raise RuntimeError("mine")

    def __iter__(self):
        raise RuntimeError("mine")


class AnyValuesTest(CheckerCase):
    GOOD = (certify_best(where(("pick", ("stack", S, S), ("a", "p")), ("and", YES, P)), SCHEMAS),
            certify_alike(copies(2, "ab"), copies(2, "ab"), SIMPLE_SCHEMAS),
            certify_alike(where(SA, eq(A, number(1))), where(SA, eq(A, number(2))), SIMPLE_SCHEMAS))
    ODD = ANY_VALUES + (Raises(), Raises, Spoofs(), Words("alike"), Words("scan"), Many((1, 2, 3, 4)), Many(), range(4), iter(()),
                        b"abcd", bytearray(4), frozenset(), complex(1), ("rewritten",), ("alike",) * 4)

    def test_any_values(self):
        for value in self.ODD:
            for other in self.ODD:
                self.says(False, value, other)
            for claim, certificate in self.GOOD:
                self.says(False, value, certificate)
                self.says(False, claim, value)
                for at in range(4):
                    self.says(False, claim[:at] + (value,) + claim[at + 1:], certificate)

    def test_any_values_inside(self):
        for claim, certificate in self.GOOD:
            self.says(True, claim, certificate)
            for path in places_in(claim):
                self.inside(path, lambda value: (replaced(claim, path, value), certificate))
            for path in places_in(certificate):
                self.inside(path, lambda value: (claim, replaced(certificate, path, value)))

    def inside(self, path, made):
        """Asks for no error with other values in a place, and that what is no plain value is never taken."""
        for value in (Raises(), Odd(), Spoofs(), Words("a"), Many(), [], {}, set(), b"a", print):
            self.says(False, *made(value))
        for value in (None, True, -1, 0, "", "a", (), ("a",) * 3):
            self.assertIs(type(accepts(*made(value))), bool)

    def test_values_nested_far(self):
        deep = "a"
        for _ in range(58):
            deep = (deep,)
        towers = [deep]
        for word in ("where", "not", "and", "slice", "stack", "scan", "pick"):
            tower = S
            for _ in range(58):
                tower = (word, tower) if word == "not" else (word, tower, ("col", "a"))
            towers.append(tower)
        wide = (("fold", ()),) * 30000, ("a",) * 90000, ((),) * 90000, tuple(range(90000))
        for value in (*towers, *wide):
            for claim, certificate in self.GOOD:
                self.says(False, value, certificate)
                self.says(False, claim, value)
                self.says(False, claim, (value,))
                for at in range(4):
                    self.says(False, claim[:at] + (value,) + claim[at + 1:], certificate)
            plan = where(S, value)
            self.says(False, ("rewritten", plan, plan, SCHEMAS), ())

    def test_the_same_whatever_was_asked_before(self):
        asked = [pair for pair in self.GOOD] + [(claim, ()) for claim, _ in self.GOOD] + [(("alike", SA, SA, SIMPLE_SCHEMAS), (0,))]
        expected = [accepts(*pair) for pair in asked]
        self.assertEqual(expected, [True] * 3 + [False] * 3 + [True])
        for seed in range(20):
            order = random.Random(seed).sample(range(len(asked)), len(asked))
            self.assertEqual([accepts(*asked[at]) for at in order], [expected[at] for at in order])

    def test_arguments_by_name(self):
        claim, certificate = self.GOOD[0]
        self.assertIs(accepts(certificate=certificate, claim=claim), True)
        self.assertIs(accepts(claim, certificate=None), False)

    def test_words(self):
        for claim, certificate in self.GOOD:
            for word in ("Rewritten", "rewritten ", "", "best", "correspond", "like", "a", "un", ("alike",), None, True, b"alike"):
                self.says(False, (word, *claim[1:]), certificate)
            self.says(False, list(claim), certificate)
            self.says(False, claim[:3], certificate)
            self.says(False, (*claim, ()), certificate)


def places_in(value, path=()):
    """The paths of indexes to all places in a value."""
    yield path
    if isinstance(value, tuple):
        for at, item in enumerate(value):
            yield from places_in(item, path + (at,))


if __name__ == "__main__":
    unittest.main()
