"""The best rule for told things, beside boxes packed in shares that show that none is better."""

from sizesreckoned.errors import BadBox, BadRule, BadThings, Many
from sizesreckoned.rules import WIDEST, Rule, rule_text
from sizesreckoned.sound import judged
from sizesreckoned.kinds import added, is_number, is_pair, is_size, is_whole, is_whole_up_to, lowest, reduced

MOST_SIZES = 6
MOST_ALIKE = 99
MOST_PATTERNS = 300


def check_things(box, things):
    """Raise what is wrong of a box and the things for it."""
    if not is_whole_up_to(box, 1, WIDEST):
        raise BadBox(box)
    if not is_things(box, things):
        raise BadThings(things)


def is_things(box, value):
    """Tell whether the value is things for the box."""
    if not isinstance(value, tuple) or not 1 <= len(value) <= MOST_SIZES:
        return False
    last = 0
    for part in value:
        if not is_pair(part) or not is_whole_up_to(part[0], last + 1, box):
            return False
        if not is_whole_up_to(part[1], 1, MOST_ALIKE):
            return False
        last = part[0]
    return True


def is_pattern(box, things, value):
    """Tell whether the value is a pattern of the things."""
    if not isinstance(value, tuple) or len(value) != len(things):
        return False
    if not all([is_whole(many, 0) for many in value]):
        return False
    return 0 < sum([many * size for many, (size, _) in zip(value, things)]) <= box


def full_patterns(box, things):
    """Return all patterns beside which no further thing fits."""
    sizes = [size for size, _ in things]
    # Each way to put in the greater sizes is full with as many of the least one as there is room for.
    rows = [(box, ())]
    for size in reversed(sizes[1:]):
        if sum([room // size + 1 for room, _ in rows]) > MOST_PATTERNS:
            raise Many(MOST_PATTERNS)
        rows = [(room - many * size, (many, *row)) for room, row in rows for many in range(room // size + 1)]
    return [(room // sizes[0], *row) for room, row in rows]


def things_alone(many):
    """Return the patterns with one thing of one of so many sizes."""
    rows = []
    for at in range(many):
        row = [0] * many
        row[at] = 1
        rows.append(tuple(row))
    return rows


def mixture(patterns, cost, wants):
    """Return (shares, prices, under): the cheapest shares that come to the wants, all to be divided by under.

    Each pattern has the cost; a thing alone, which comes to 1 of its want, has the cost 1. The shares are those
    of all things alone, then those of the patterns. The prices of the wants come for no pattern to more than
    its cost, for nothing alone to more than 1, and for the wants to just what the shares cost: so none cost less.
    """
    width = len(wants)
    table = first_table(patterns, cost, wants)
    under = 1
    # Numbered are things alone, patterns, and then, for each want, what it is exceeded by.
    used = list(range(width))
    unused = list(range(width, width + len(table) - 1))
    line = line_that_saves(table, unused, False)
    while line is not None:
        column = column_that_ends(table, used, line)
        pivot = table[line][column]
        stands = table[-1][column] == 0
        table = exchanged(table, line, column, under)
        under = pivot
        number = used[column]
        used[column] = unused[line]
        unused[line] = number
        line = line_that_saves(table, unused, stands)
    told = [0] * (width + len(unused))
    for at, number in enumerate(used):
        told[number] = table[-1][at]
    first = width + len(patterns)
    prices = [0] * width
    for at, number in enumerate(unused):
        if number >= first:
            prices[number - first] = table[at][-1]
    return told[:first], prices, under


def first_table(patterns, cost, wants):
    """Return the table for things alone: a line for each number that is not used, and one for the wants.

    A line tells how much of each that is used comes to the same, and how much more it costs than these.
    """
    table = [[*pattern, cost - sum(pattern)] for pattern in patterns]
    for at in range(len(wants)):
        line = [0] * len(wants) + [1]
        line[at] = -1
        table.append(line)
    table.append([*wants, -sum(wants)])
    return table


def line_that_saves(table, unused, stands):
    """Return the line that saves most, or, while all stands still, that of the first number; None if none saves."""
    saving = [(number, at) for at, number in enumerate(unused) if table[at][-1] < 0]
    if not saving:
        return None
    # With the first number, here and for the columns, no table comes again while nothing is saved.
    if stands:
        return min(saving)[1]
    return min([(table[at][-1], at) for _, at in saving])[1]


def column_that_ends(table, used, line):
    """Return the column, that of the first number, that is used up first as the line is used."""
    found = None
    for at, number in enumerate(used):
        if table[line][at] > 0:
            if found is None:
                found = at
            here = table[-1][at] * table[line][found]
            there = table[-1][found] * table[line][at]
            if here < there or here == there and number < used[found]:
                found = at
    return found


def exchanged(table, line, column, under):
    """Return the table in which a line and a column have changed places, over the entry where they meet."""
    head = table[line]
    pivot = head[column]
    lines = []
    for at, entries in enumerate(table):
        if at == line:
            changed = [-entry for entry in head]
            changed[column] = under
        else:
            # All entries are determinants of parts of the first table, so nothing is left over.
            times = entries[column]
            changed = [(pivot * entry - times * top) // under for entry, top in zip(entries, head)]
            changed[column] = times
        lines.append(changed)
    return lines


def best(box, things):
    """Return the worth that the best rule reckons of the things, packed boxes that come to it, and the rule."""
    check_things(box, things)
    patterns = full_patterns(box, things)
    shares, prices, under = mixture(patterns, 1, [many for _, many in things])
    ways = [*things_alone(len(things)), *patterns]
    rows = [(pattern, lowest(share, under)) for pattern, share in zip(ways, shares) if share > 0]
    bound, *worths = reduced([under, *prices])
    steps = [("from", size, worth) for (size, _), worth in zip(things, worths)]
    return ("best", lowest(sum(shares), under), tuple(rows), rule_text(box, bound, steps))


def shows_best(box, things, value):
    """Tell whether the value is right as what best tells of the things."""
    check_things(box, things)
    full_patterns(box, things)
    if not isinstance(value, tuple) or len(value) != 4 or value[0] != "best":
        return False
    _, worth, rows, text = value
    if not is_number(worth) or not is_rows(box, things, rows):
        return False
    if added([share for _, share in rows]) != worth or not covers(things, rows):
        return False
    return reckons(box, things, worth, text)


def is_rows(box, things, value):
    """Tell whether the value is a tuple of (pattern, share), no pattern twice."""
    if not isinstance(value, tuple):
        return False
    if not all([is_pair(row) and is_pattern(box, things, row[0]) and is_size(row[1]) for row in value]):
        return False
    return len({pattern for pattern, _ in value}) == len(value)


def covers(things, rows):
    """Tell whether there are as many things of each size as told in the shares of the patterns."""
    for at, (_, many) in enumerate(things):
        over, under = added([(pattern[at] * share[0], share[1]) for pattern, share in rows])
        if over < many * under:
            return False
    return True


def reckons(box, things, worth, text):
    """Tell whether the text is that of a sound rule of the box that reckons the things so."""
    try:
        rule = Rule(text)
    except BadRule:
        return False
    if rule.box != box or judged(rule)[0] != "sound":
        return False
    lot = tuple([((size, 1), many) for size, many in things])
    return rule.reckoned(lot) * worth[1] == rule.bound * worth[0]
