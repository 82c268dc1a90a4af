"""How few boxes are enough for told things."""

from sizesreckoned.errors import Many
from sizesreckoned.mixed import best, check_things, full_patterns, is_pattern
from sizesreckoned.kinds import is_whole

MOST_THINGS = 12


def check_few_things(box, things):
    """Raise what is wrong of a box and things that are all to be put into boxes."""
    check_things(box, things)
    if sum([many for _, many in things]) > MOST_THINGS:
        raise Many(MOST_THINGS)
    full_patterns(box, things)


def one_less(counts, at):
    """Return the counts with one thing less of this size."""
    return (*counts[:at], counts[at] - 1, *counts[at + 1:])


def all_counts(things):
    """Return how many of each size can be taken of the things, in all ways, fewer ones first."""
    rows = [()]
    for _, many in things:
        rows = [(*row, taken) for row in rows for taken in range(many + 1)]
    return rows


def last_things(box, things):
    """Return for all counts (boxes, fill, at): the fewest boxes, the least fill of the last, what came last."""
    # Ahead of the first thing there is no room, so it opens a box.
    found = {}
    for counts in all_counts(things):
        ways = []
        for at, (size, _) in enumerate(things):
            if counts[at] > 0:
                boxes, fill, _ = found[one_less(counts, at)]
                ways.append((boxes, fill + size, at) if fill + size <= box else (boxes + 1, size, at))
        found[counts] = min(ways) if ways else (0, box, 0)
    return found


def packed(box, things):
    """Return the patterns of the fewest boxes into which all things can be put."""
    found = last_things(box, things)
    counts = tuple([many for _, many in things])
    rows = []
    pattern = [0] * len(things)
    while any(counts):
        _, fill, at = found[counts]
        pattern[at] += 1
        counts = one_less(counts, at)
        if fill == things[at][0]:
            # It is alone so far, so it opened its box.
            rows.append(tuple(pattern))
            pattern = [0] * len(things)
    return tuple(rows)


def wanted(box, things):
    """Return the fewest boxes for all the things, how they are packed, and how many more than the best rule tells."""
    check_few_things(box, things)
    rows = packed(box, things)
    over, under = best(box, things)[1]
    told = -(-over // under)
    return (len(rows), rows, len(rows) - told)


def shows_wanted(box, things, value):
    """Tell whether the value is right as what wanted tells of the things."""
    check_few_things(box, things)
    if not isinstance(value, tuple) or len(value) != 3:
        return False
    number, rows, gap = value
    if not is_whole(number, 1) or not is_whole(gap, 0) or not is_packing(box, things, rows):
        return False
    fewest, _, least = wanted(box, things)
    return number == len(rows) == fewest and gap == least


def is_packing(box, things, value):
    """Tell whether the value is a tuple of patterns in which there are just as many things as told."""
    if not isinstance(value, tuple) or not all([is_pattern(box, things, row) for row in value]):
        return False
    return all([sum([row[at] for row in value]) == many for at, (_, many) in enumerate(things)])
