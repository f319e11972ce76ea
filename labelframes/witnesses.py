"""Data for which two simple plans that do not correspond give different rows.

For a shape data are made in which each slot has a value of its own. So the shape finds each of its places in the
row that was made for it, and gives a result row. This is done for both shapes, and twice for each: slots that are
not bound are missing, at first only those that are not in the result, then all of them. If both shapes gave the
result row in the same ways for all these data, the slots of each would be taken one to one to those of the other,
and they would correspond.

How often the result row comes is a polynomial in how often each row stands in the data. Two different polynomials
of degree n differ for some numbers whose sum is n at the most, so the search below ends, and the data stay small.
"""

from labelframes.fitting import source_schema
from labelframes.frames import Frame, House
from labelframes.values import kinds_of


def witness(one, other, schemas):
    """A house for which two shapes that do not correspond do not give the same rows as often."""
    for shape in (one, other):
        for shown in ([] if shape.is_void else [shape.head, []]):
            worths = slot_worths(shape, [one, other], shown, schemas)
            rows = place_rows(shape, worths, schemas)
            head = [worths[slot] for slot in shape.head]
            numbers = telling_numbers(ways(one, rows, head), ways(other, rows, head), len(rows))
            if numbers is not None:
                return house_of(rows, numbers, schemas)
    return None


def slot_worths(shape, shapes, shown, schemas):
    """For each slot its value: its own one, or a new one if it is bound or shown, or None."""
    used = [worth for each in shapes for slot in each.worths for worth in each.worths[slot]]
    kinds = {source: kinds_of(source_schema(source, schemas)) for source in shape.sources}
    most = max([shape.slots[cell] for cell in shape.slots]) + 1
    fresh = {"int": fresh_worths("int", most, used), "text": fresh_worths("text", most, used)}
    worths = {}
    for place, name in shape.slots:
        slot = shape.slots[(place, name)]
        if slot in shape.worths:
            worths[slot] = shape.worths[slot][0]
        elif slot in shape.bound or slot in shown:
            worths[slot] = fresh[kinds[shape.sources[place]][name]][slot]
        else:
            worths[slot] = None
    return worths


def fresh_worths(kind, many, used):
    """So many different values of a kind, none of which is used."""
    found = []
    number = 0
    while len(found) < many:
        worth = number if kind == "int" else str(number)
        if worth not in used:
            found.append(worth)
        number += 1
    return found


def place_rows(shape, worths, schemas):
    """The list of the different rows that are made for the places, as pairs of a source and a row."""
    found = []
    for place, source in enumerate(shape.sources):
        row = tuple([worths[shape.slots[(place, name)]] for name, _ in source_schema(source, schemas)])
        if (source, row) not in found:
            found.append((source, row))
    return found


def ways(shape, rows, head):
    """The ways in which a shape gives the result row `head`: for the rows in which it finds its places, by their
    ascending numbers, how many ways there are.
    """
    start = None if shape.is_void else joined_worths({}, [(slot, shape.worths[slot][0]) for slot in shape.worths])
    start = None if start is None else joined_worths(start, list(zip(shape.head, head)))
    found = [] if start is None else [((), start)]
    for place in range(len(shape.sources)):
        found = [longer for way in found for longer in ways_onward(shape, place, rows, way)]
    counts = {}
    for numbers, _ in found:
        key = tuple(sorted(numbers))
        counts[key] = counts.get(key, 0) + 1
    return counts


def ways_onward(shape, place, rows, way):
    """The ways that are longer than this one by a place; a way has the numbers of its rows and the values of slots."""
    numbers, worths = way
    found = []
    for number, pair in enumerate(rows):
        if pair[0] == shape.sources[place]:
            more = fitting_worths(shape, place, pair[1], worths)
            if more is not None:
                found.append(((*numbers, number), more))
    return found


def fitting_worths(shape, place, row, worths):
    """The values of slots together with those of a row at a place, or None if the row does not fit there."""
    slots = [shape.slots[cell] for cell in shape.slots if cell[0] == place]
    pairs = list(zip(slots, row))
    if any([worth is None and slot in shape.bound for slot, worth in pairs]):
        return None
    return joined_worths(worths, pairs)


def joined_worths(worths, pairs):
    """The values of slots together with those of pairs (slot, value), or None if a slot would have two."""
    found = dict(worths)
    for slot, worth in pairs:
        if found.setdefault(slot, worth) != worth:
            return None
    return found


def telling_numbers(one, other, many):
    """How often each of so many rows has to stand in the data to tell the two apart by their ways, or None."""
    if one == other:
        return None
    degree = max([len(key) for key in [*one, *other]])
    for numbers in sorted(amounts(many, degree), key=sum):
        if counted(one, numbers) != counted(other, numbers):
            return numbers
    return None


def amounts(many, most):
    """The list of all tuples of so many integers from 0 on whose sum is at most `most`."""
    found = [()]
    for _ in range(many):
        found = [(*numbers, number) for numbers in found for number in range(most - sum(numbers) + 1)]
    return found


def counted(counts, numbers):
    """How often a result row is found if each row stands in the data as often as these numbers tell."""
    total = 0
    for key in counts:
        times = counts[key]
        for number in key:
            times *= numbers[number]
        total += times
    return total


def house_of(rows, numbers, schemas):
    """The house in which each of the rows stands as often as these numbers tell."""
    frames = {}
    for name, schema in schemas:
        kept = [row for (source, row), many in zip(rows, numbers) for _ in range(many) if source == name]
        frames[name] = Frame(schema, tuple(kept))
    return House(**frames)
