"""A console: lines that ask for something about frames, and texts that answer them."""

from labelframes.errors import InvalidLine, InvalidNumber, InvalidText
from labelframes.frames import House
from labelframes.notation import plan_text, read_plan
from labelframes.origins import origins
from labelframes.plans import schema_of
from labelframes.reading import MOST_DIGITS
from labelframes.rewriting import best
from labelframes.running import run
from labelframes.simple import alike
from labelframes.texts import header_line, truth_text


class Console:
    """Answers lines about the frames of a house."""

    def __init__(self, **frames):
        self._house = House(**frames)

    def say(self, line):
        """The answer to a line."""
        if not isinstance(line, str):
            raise InvalidLine(line)
        if line == "names":
            return " ".join(self._house.names) if len(self._house) > 0 else "none"
        word, _, rest = line.partition(" ")
        if word not in ANSWERS:
            raise InvalidLine(line)
        action = ANSWERS[word]
        return action(self._house, line, rest)


def plan_of(line, text):
    """The plan with a text that is a part of a line."""
    try:
        return read_plan(text)
    except InvalidText:
        raise InvalidLine(line) from None


def index_of(line, text):
    """The index with a text that is a part of a line."""
    are_digits = text != "" and all(["0" <= sign <= "9" for sign in text])
    if not are_digits or len(text) > MOST_DIGITS or text != "0" and text[0] == "0":
        raise InvalidLine(line)
    return int(text)


def parted(line, text):
    """The two texts that stand ahead of and behind the first "; " that is not within quotation marks."""
    is_inside = False
    is_marked = False
    for at, sign in enumerate(text):
        if is_marked:
            is_marked = False
        elif is_inside and sign == "\\":
            is_marked = True
        elif sign == '"':
            is_inside = not is_inside
        elif not is_inside and text.startswith("; ", at):
            return text[:at], text[at + 2:]
    raise InvalidLine(line)


def answer_run(house, line, rest):
    """The text of the result of a plan."""
    return str(run(plan_of(line, rest), house))


def answer_best(house, line, rest):
    """The text of a plan that gives the same with less work."""
    other, _ = best(plan_of(line, rest), house.schemas)
    return plan_text(other)


def answer_schema(house, line, rest):
    """The schema of a plan, as it stands in the text of a frame."""
    return header_line(schema_of(plan_of(line, rest), house.schemas))


def answer_origin(house, line, rest):
    """The origin of a row of the result of a plan."""
    word, _, text = rest.partition(" ")
    index = index_of(line, word)
    found = origins(plan_of(line, text), house)
    if index >= len(found):
        raise InvalidNumber(index)
    return " ".join([f"{source}.{number}" for source, number in found[index]])


def answer_alike(house, line, rest):
    """Whether two simple plans give the same rows as often."""
    one, other = parted(line, rest)
    return truth_text(alike(plan_of(line, one), plan_of(line, other), house.schemas))


ANSWERS = {
    "run": answer_run,
    "best": answer_best,
    "schema": answer_schema,
    "origin": answer_origin,
    "alike": answer_alike,
}
