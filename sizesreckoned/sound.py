"""Whether a rule is right for all lots, and the most that lots are reckoned."""

from sizesreckoned.errors import BadSize, Broken, Endless
from sizesreckoned.rules import Rule, filled, place_of, rule_text, space_of, worth_in
from sizesreckoned.kinds import is_lot, is_pair, is_size_up_to, is_whole


def comes_to(one, other):
    """Return the space to which two spaces come."""
    return one + other - (one & other & 1)


def crumb_worth(rule):
    """Return the worth of the least sizes, of which endlessly many fit a box."""
    return worth_in(rule, 1)


def least_table(rule):
    """Return for each space the most that a lot within it is reckoned, crumbs left aside."""
    last = 2 * rule.box
    table = [0] * (last + 1)
    for space in range(last + 1):
        # A lot within a space is within each greater one.
        table[space] = max(table[max(space - 1, 0)], table[space])
        for step in rule.steps:
            behind = comes_to(space, place_of(step))
            if space < behind <= last:
                table[behind] = max(table[behind], table[space] + step[2])
    return table


def ways_into(rule, table, space):
    """Return (number of a step, space ahead of it) for all steps by which the table comes to this space."""
    ways = []
    for number, step in enumerate(rule.steps):
        place = place_of(step)
        for ahead in (space - place, space - place + 1):
            if 0 <= ahead < space and comes_to(ahead, place) == space:
                if table[ahead] + step[2] == table[space]:
                    ways.append((number, ahead))
    return ways


def steps_taken(rule, table):
    """Return how often each step is taken by a lot that is reckoned what the table ends with."""
    taken = [0] * len(rule.steps)
    space = len(table) - 1
    while space > 0:
        if table[space] == table[space - 1]:
            space -= 1
        else:
            number, space = ways_into(rule, table, space)[0]
            taken[number] += 1
    return taken


def lot_of(rule, taken):
    """Return a lot with so many things for each step, each as small as its step allows."""
    beyond = sum([taken[at] for at, step in enumerate(rule.steps) if step[0] == "beyond"])
    # So little above their whole numbers, all of them together are less than 1 above.
    parts = beyond + 1
    lot = []
    for at, (word, start, _) in enumerate(rule.steps):
        size = (start, 1) if word == "from" else (start * parts + 1, parts)
        if taken[at] > 0:
            lot.append((size, taken[at]))
    return tuple(lot)


def judged(rule):
    """Tell whether the rule is right for all lots, and why."""
    crumb = crumb_worth(rule)
    if crumb > 0:
        # At least two, since one alone would not be less than 1.
        many = rule.bound // crumb + 2
        return ("broken", (((1, many), many),))
    table = least_table(rule)
    if table[-1] > rule.bound:
        return ("broken", lot_of(rule, steps_taken(rule, table)))
    return ("sound", tuple(table))


def sound_table(rule):
    """Return a table that holds for the rule, if there is one."""
    word, shown = judged(rule)
    if word == "broken":
        raise Broken(shown)
    return shown


def shows_judged(rule, value):
    """Tell whether the value is right as what judged tells of the rule."""
    if not is_pair(value):
        return False
    word, shown = value
    if word == "sound":
        return is_table(rule, shown) and holds(rule, shown)
    return word == "broken" and breaks(rule, shown)


def is_table(rule, value):
    """Tell whether the value is a table for the rule."""
    if not isinstance(value, tuple) or len(value) != 2 * rule.box + 1:
        return False
    if not all([is_whole(entry, 0) for entry in value]):
        return False
    return all([value[at] <= value[at + 1] for at in range(len(value) - 1)])


def holds(rule, table):
    """Tell whether the table holds for the rule."""
    if table[-1] > rule.bound:
        return False
    for space, entry in enumerate(table):
        for step in rule.steps:
            behind = comes_to(space, place_of(step))
            if behind < len(table) and table[behind] < entry + step[2]:
                return False
    return True


def breaks(rule, value):
    """Tell whether the value is a lot that fits a box and is reckoned more than the bound."""
    if not is_lot(value):
        return False
    over, under = filled(value)
    return over <= rule.box * under and rule.reckoned(value) > rule.bound


def most(rule, size):
    """Return the most that a lot is reckoned that fills no more than the size."""
    if not is_size_up_to(size, rule.box):
        raise BadSize(size)
    if crumb_worth(rule) > 0:
        raise Endless(None)
    return least_table(rule)[space_of(size)]


def plain(rule):
    """Return the rule that tells the same worths with as few steps as can be."""
    steps = []
    last = 0
    for step in rule.steps:
        if step[2] != last:
            steps.append(step)
        last = step[2]
    return Rule(rule_text(rule.box, rule.bound, steps))
