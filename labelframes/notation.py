"""The texts of expressions and plans."""

from labelframes.errors import InvalidText, NoText
from labelframes.forms import EXPRESSION_LEVELS, EXPRESSIONS, PLAN_LEVELS, PLANS
from labelframes.forms import check_expression, check_plan, expression_fault, plan_fault
from labelframes.reading import Reader
from labelframes.texts import value_text

VALUE_WORDS = ("yes", "no", "none")


def expression_text(expression):
    """The text of an expression."""
    check_expression(expression)
    return part_text(expression)


def plan_text(plan):
    """The text of a plan."""
    check_plan(plan)
    return node_text(plan)


def read_expression(text):
    """The expression with this text."""
    reader = Reader(text)
    expression = take_part(reader, 1)
    reader.finish()
    if expression_fault(expression) is not None:
        raise InvalidText(text)
    return expression


def read_plan(text):
    """The plan with this text."""
    reader = Reader(text)
    plan = take_plan(reader, 1)
    reader.finish()
    if plan_fault(plan) is not None:
        raise InvalidText(text)
    return plan


def part_text(part):
    """The text of an expression or of a part of one."""
    if part[0] == "col":
        return column_text(part[1])
    if part[0] == "value":
        return constant_text(part[1], part[2])
    inside = ", ".join([part_text(inner) for inner in part[1:]])
    return f"{part[0]}({inside})"


def column_text(name):
    """The text of a column in an expression."""
    # These words are the texts of values, so a column that is called so could not be told from them.
    if name in VALUE_WORDS:
        raise NoText()
    return name


def constant_text(kind, value):
    """The text of a value of a kind in an expression."""
    return f"none {kind}" if value is None else value_text(value)


def node_text(plan):
    """The text of a plan or of a node of one."""
    inside = ", ".join([field_text(field, item) for field, item in zip(PLANS[plan[0]], plan[1:])])
    return f"{plan[0]}({inside})"


def field_text(field, item):
    """The text of what stands in a field of a plan."""
    if field == "plan":
        return node_text(item)
    if field == "expression":
        return part_text(item)
    if field == "number":
        return str(item)
    if field == "limit":
        return "all" if item is None else str(item)
    if field in ("names", "any names"):
        return list_text(item)
    if field == "keys":
        return list_text([f"{name} {direction_text(up)}" for name, up in item])
    if field in ("pairs", "sums"):
        return list_text([" ".join(words) for words in item])
    return item


def direction_text(up):
    """The word for a direction of a "sort"."""
    return "up" if up else "down"


def list_text(texts):
    """The text of a tuple whose items have these texts."""
    inside = ", ".join(texts)
    return f"[{inside}]"


def take_part(reader, level):
    """Takes an expression, or a part of one at this level."""
    # Deeper ones are no expressions, and endless ones must not be followed.
    if level > EXPRESSION_LEVELS:
        raise InvalidText(reader.text)
    if reader.sees('"'):
        return ("value", "text", reader.take_quoted())
    if reader.sees_number():
        return ("value", "int", reader.take_number())
    word = reader.take_word()
    if word in ("yes", "no"):
        return ("value", "bool", word == "yes")
    if word == "none":
        reader.skip(" ")
        return ("value", reader.take_word(), None)
    if not reader.sees("("):
        return ("col", word)
    if "part" not in EXPRESSIONS.get(word, ()):
        raise InvalidText(reader.text)
    parts = take_items(reader, EXPRESSIONS[word], level)
    return (word, *parts)


def take_plan(reader, level):
    """Takes a plan, or a node of one at this level."""
    if level > PLAN_LEVELS:
        raise InvalidText(reader.text)
    word = reader.take_word()
    if word not in PLANS:
        raise InvalidText(reader.text)
    items = take_items(reader, PLANS[word], level)
    return (word, *items)


def take_items(reader, fields, level):
    """Takes, in parentheses, the items that stand in these fields of a node at this level."""
    items = []
    reader.skip("(")
    for field in fields:
        if len(items) > 0:
            reader.skip(", ")
        items.append(take_item(reader, field, level))
    reader.skip(")")
    return items


def take_item(reader, field, level):
    """Takes the item that stands in a field of a node at this level."""
    if field == "part":
        return take_part(reader, level + 1)
    if field == "plan":
        return take_plan(reader, level + 1)
    if field == "expression":
        return take_part(reader, 1)
    if field == "number":
        return reader.take_number()
    if field == "limit":
        return take_limit(reader)
    if field in ("names", "any names"):
        return tuple([sole_word(reader, group) for group in take_groups(reader)])
    if field == "keys":
        return tuple([key_of(reader, group) for group in take_groups(reader)])
    if field in ("pairs", "sums"):
        return tuple(take_groups(reader))
    return reader.take_word()


def take_limit(reader):
    """Takes an integer, or the word that stands for no limit."""
    if reader.sees_number():
        return reader.take_number()
    reader.skip("all")
    return None


def take_groups(reader):
    """Takes, in brackets, a list of groups of words; each group is a tuple."""
    groups = []
    reader.skip("[")
    while not reader.sees("]"):
        if len(groups) > 0:
            reader.skip(", ")
        groups.append(take_group(reader))
    reader.skip("]")
    return groups


def take_group(reader):
    """Takes words with single spaces between them."""
    words = [reader.take_word()]
    while reader.sees(" "):
        reader.skip(" ")
        words.append(reader.take_word())
    return tuple(words)


def sole_word(reader, group):
    """The word of a group that must consist of one."""
    if len(group) != 1:
        raise InvalidText(reader.text)
    return group[0]


def key_of(reader, group):
    """The key of a "sort" that a group of words stands for."""
    if len(group) != 2 or group[1] not in ("up", "down"):
        raise InvalidText(reader.text)
    return (group[0], group[1] == "up")
