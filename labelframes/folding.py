"""Folding of expressions: what can be worked out without a row is put in its place."""

from labelframes.evaluating import kind_behind, value_behind


def folded_within(expression):
    """The folded expression of point 10."""
    if expression[0] in ("col", "value"):
        return expression
    word = expression[0]
    parts = [folded_within(part) for part in expression[1:]]
    if all([is_constant(part) for part in parts]):
        kind = kind_behind(word, [part[1] for part in parts])
        if kind is not None:
            return ("value", kind, value_behind(word, [part[2] for part in parts]))
    return shortened(word, parts)


def is_constant(part):
    """Whether an expression is a value."""
    return part[0] == "value"


def is_truth(part, truth):
    """Whether an expression is just this truth value."""
    return part == ("value", "bool", truth)


def shortened(word, parts):
    """An operation of these folded parts, or what stands for it if it does not depend on all of them."""
    first = parts[0]
    if word in ("and", "or"):
        return shortened_pair(word, first, parts[1])
    if word == "not" and first[0] == "not":
        return first[1]
    if word == "if" and is_constant(first):
        return parts[1] if is_truth(first, True) else parts[2]
    if word == "else" and is_constant(first):
        return first if first[2] is not None else parts[1]
    return (word, *parts)


def shortened_pair(word, one, other):
    """The same for an "and" or an "or"."""
    decisive = word == "or"
    for part, rest in ((one, other), (other, one)):
        if is_truth(part, not decisive):
            return rest
        if is_truth(part, decisive):
            return part
    return (word, one, other)
