"""Whether a rule is right for all lots, and the most that lots are reckoned."""

from sizesreckoned.errors import BadSize, Broken, Endless
from sizesreckoned.rules import Rule, filled, place_of, rule_text, space_of
from sizesreckoned.kinds import is_lot, is_pair, is_size_up_to, is_whole


def comes_to(one, other):
    """Return the space to which two spaces come."""
    return one + other - (one & other & 1)


def crumb_worth(rule):
    """Return the worth of the least sizes, of which endlessly many fit a box."""
    return rule.worths[1]


def most_within(box, steps):
    """Return for each whole number up to the box the most that things within it are reckoned by the steps.

    Things are within it if the numbers of their steps come to no more than it, all together.
    """
    alone = [0] * (box + 1)
    for _, start, worth in steps:
        alone[start] = max(alone[start], worth)
    table = [0]
    kept = []
    for whole in range(1, box + 1):
        ways = [table[whole - start] + worth for start, worth in kept]
        reached = max([0, *ways])
        # A thing that is reckoned no more than lesser ones in its place need not be looked at again.
        if alone[whole] > reached:
            reached = alone[whole]
            kept.append((whole, reached))
        table.append(reached)
    return table


def least_table(rule):
    """Return for each space the most that a lot within it is reckoned, crumbs left aside."""
    from_on = most_within(rule.box, [step for step in rule.steps if step[0] == "from"])
    all_steps = most_within(rule.box, rule.steps)
    table = [0]
    for whole in range(rule.box):
        table.append(all_steps[whole])
        # What is beyond its numbers is within the next whole number, too, if these come to less.
        table.append(max(all_steps[whole], from_on[whole + 1]))
    return table


def last_way_into(rule, table, space):
    """Return (number of a step, space ahead of it) for the first step by which the table comes to this space."""
    for number, step in enumerate(rule.steps):
        place = place_of(step)
        for ahead in (space - place, space - place + 1):
            if 0 <= ahead < space and comes_to(ahead, place) == space and table[ahead] + step[2] == table[space]:
                return number, ahead
    return None


def steps_taken(rule, table):
    """Return how often each step is taken by a lot that is reckoned what the table ends with."""
    taken = [0] * len(rule.steps)
    space = len(table) - 1
    while space > 0:
        if table[space] == table[space - 1]:
            space -= 1
        else:
            number, space = last_way_into(rule, table, space)
            taken[number] += 1
    return taken


def lot_of(rule, taken):
    """Return a lot with so many things for each step, each as small as its step allows."""
    beyond = sum([taken[at] for at, step in enumerate(rule.steps) if step[0] == "beyond"])
    # So little above their whole numbers, all of them together are less than 1 above.
    parts = beyond + 1
    lot = []
    for at, (word, start, _) in enumerate(rule.steps):
        size = (start, 1) if word == "from" else (start * parts + 1, parts)
        if taken[at] > 0:
            lot.append((size, taken[at]))
    return tuple(lot)


def judged(rule):
    """Tell whether the rule is right for all lots, and why."""
    crumb = crumb_worth(rule)
    if crumb > 0:
        # At least two, since one alone would not be less than 1.
        many = rule.bound // crumb + 2
        return ("broken", (((1, many), many),))
    table = least_table(rule)
    if table[-1] > rule.bound:
        return ("broken", lot_of(rule, steps_taken(rule, table)))
    return ("sound", tuple(table))


def sound_table(rule):
    """Return a table that holds for the rule, if there is one."""
    word, shown = judged(rule)
    if word == "broken":
        raise Broken(shown)
    return shown


def shows_judged(rule, value):
    """Tell whether the value is right as what judged tells of the rule."""
    if not is_pair(value):
        return False
    word, shown = value
    if word == "sound":
        return is_table(rule, shown) and holds(rule, shown)
    return word == "broken" and breaks(rule, shown)


def is_table(rule, value):
    """Tell whether the value is a table for the rule."""
    if not isinstance(value, tuple) or len(value) != 2 * rule.box + 1:
        return False
    if not all([is_whole(entry, 0) for entry in value]):
        return False
    return all([value[at] <= value[at + 1] for at in range(len(value) - 1)])


def holds(rule, table):
    """Tell whether the table holds for the rule."""
    if table[-1] > rule.bound:
        return False
    for step in rule.steps:
        ahead, behind = table, table[place_of(step):]
        if step[0] == "beyond":
            # The spaces 2 * N and 2 * N + 1 come to the same one with it, and the entry of the second is no less.
            ahead, behind = table[1::2], behind[::2]
        if not all([entry + step[2] <= later for entry, later in zip(ahead, behind)]):
            return False
    return True


def breaks(rule, value):
    """Tell whether the value is a lot that fits a box and is reckoned more than the bound."""
    if not is_lot(value):
        return False
    over, under = filled(value)
    return over <= rule.box * under and rule.reckoned(value) > rule.bound


def most(rule, size):
    """Return the most that a lot is reckoned that fills no more than the size."""
    if not is_size_up_to(size, rule.box):
        raise BadSize(size)
    if crumb_worth(rule) > 0:
        raise Endless(None)
    return least_table(rule)[space_of(size)]


def plain(rule):
    """Return the rule that tells the same worths with as few steps as can be."""
    steps = []
    last = 0
    for step in rule.steps:
        if step[2] != last:
            steps.append(step)
        last = step[2]
    return Rule(rule_text(rule.box, rule.bound, steps))
