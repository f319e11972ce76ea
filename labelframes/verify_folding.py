"""The folding of expressions, as the checker sees it; the expressions fit some columns."""

from labelframes.verify_schemas import kind_in


def folded_form(expression):
    """The folded expression of point 10."""
    if expression[0] in ("col", "value"):
        return expression
    folded = (expression[0], *[folded_form(part) for part in expression[1:]])
    if all([part[0] == "value" for part in folded[1:]]):
        return ("value", kind_in(folded, {}), outcome(folded[0], [part[2] for part in folded[1:]]))
    return reduced(folded)


def reduced(expression):
    """What stands for an operation of folded parts, some of which are no values."""
    match expression:
        case ["and", ["value", _, True], rest]:
            return rest
        case ["or", ["value", _, False], rest]:
            return rest
        case ["and", ["value", _, False], _]:
            return expression[1]
        case ["or", ["value", _, True], _]:
            return expression[1]
        case ["and", rest, ["value", _, True]]:
            return rest
        case ["or", rest, ["value", _, False]]:
            return rest
        case ["and", _, ["value", _, False]]:
            return expression[2]
        case ["or", _, ["value", _, True]]:
            return expression[2]
        case ["not", ["not", rest]]:
            return rest
        case ["if", ["value", _, truth], one, other]:
            return one if truth is True else other
        case ["else", ["value", _, worth], other]:
            return other if worth is None else expression[1]
        case _:
            return expression


def outcome(word, values):
    """The value of an operation whose parts have these values."""
    match [word, *values]:
        case ["and", one, other]:
            return decided(one, other, False)
        case ["or", one, other]:
            return decided(one, other, True)
        case ["there", one]:
            return one is not None
        case ["if", truth, one, other]:
            return one if truth is True else other
        case ["else", one, other]:
            return other if one is None else one
    if None in values:
        return None
    return outcome_of_all(word, values)


def decided(one, other, truth):
    """The value of an "and" or an "or" of two values; `truth` is the one that decides if it is among them."""
    if truth in (one, other):
        return truth
    return None if one is None or other is None else not truth


def outcome_of_all(word, values):
    """The same, for an operation that is missing if one of its parts is, and values that are all there."""
    match [word, *values]:
        case ["add" | "glue", one, other]:
            return one + other
        case ["sub", one, other]:
            return one - other
        case ["mul", one, other]:
            return one * other
        case ["div", one, other]:
            return None if other == 0 else one // other
        case ["mod", one, other]:
            return None if other == 0 else one - other * (one // other)
        case ["eq", one, other]:
            return one == other
        case ["lt", one, other]:
            return one < other
        case ["le", one, other]:
            return one <= other
        case ["not", one]:
            return not one
        case ["size", one]:
            return len(one)
        case _:
            return None
