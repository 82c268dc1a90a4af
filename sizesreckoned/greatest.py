"""Whether no right rule is better, and all best rules of small boxes."""

from sizesreckoned.errors import BadBound, BadBox
from sizesreckoned.rules import Rule, rule_text, size_in
from sizesreckoned.sound import judged, plain, sound_table
from sizesreckoned.kinds import is_number, is_size_up_to, is_whole_up_to, lowest

WIDEST_SOUGHT = 4
HIGHEST_SOUGHT = 8


def greatest(rule):
    """Tell whether no sound rule is better, otherwise a size that can be reckoned more."""
    return room_of(rule, sound_table(rule))


def room_of(rule, table):
    """Return what greatest tells of the rule, which has this least table."""
    worths = rule.worths
    for space in range(1, len(table)):
        if table[space] > worths[space]:
            return ("room", size_in(space), (table[space], 1))
    for space in range(1, len(table)):
        missing = rule.bound - worths[space] - worths[len(table) - 1 - space]
        if missing > 0:
            size = size_in(space)
            # What is missing is to be enough for as many of the size as fit the box.
            many = rule.box * size[1] // size[0]
            return ("room", size, lowest(many * worths[space] + missing, many))
    return ("greatest",)


def shows_greatest(rule, value):
    """Tell whether the value is right as what greatest tells of the rule."""
    table = sound_table(rule)
    if value == ("greatest",):
        return room_of(rule, table) == value
    if not isinstance(value, tuple) or len(value) != 3 or value[0] != "room":
        return False
    _, size, worth = value
    if not is_size_up_to(size, rule.box) or not is_number(worth):
        return False
    return worth[0] > rule.worth(size) * worth[1] and has_room(rule.bound, table, size, worth)


def has_room(bound, table, size, worth):
    """Tell whether a rule with this least table stays sound with this worth of this size."""
    for space in range(len(table)):
        # So many of the size, and no more, leave a lot within this space its room.
        many = (room_beside(table, space) * size[1] - (space & 1)) // size[0]
        if many * worth[0] + table[space] * worth[1] > bound * worth[1]:
            return False
    return True


def room_beside(table, space):
    """Return what is left of the box beside the whole number of the space."""
    return len(table) // 2 - space // 2


def best_rules(box, bound):
    """Return the texts of all plain rules of this box and bound that are greatest."""
    if not is_whole_up_to(box, 1, WIDEST_SOUGHT):
        raise BadBox(box)
    if not is_whole_up_to(bound, 1, HIGHEST_SOUGHT):
        raise BadBound(bound)
    # Half a box beside itself is to be just the bound.
    if bound & 1:
        return ()
    texts = []
    for lower in risings(box - 1, bound // 2):
        upper = [bound - worth for worth in reversed(lower)]
        rule = rule_of(box, bound, [*lower, bound // 2, *upper, bound])
        if judged(rule)[0] == "sound" and greatest(rule) == ("greatest",):
            texts.append(rule.text)
    return tuple(sorted(texts))


def risings(many, high):
    """Return all lists of so many integers from 0 to high, none less than the one ahead."""
    rows = [[]]
    for _ in range(many):
        rows = [[*row, worth] for row in rows for worth in range(max([0] + row), high + 1)]
    return rows


def rule_of(box, bound, worths):
    """Return the plain rule with these worths of the spaces from 1 on."""
    steps = []
    for at, worth in enumerate(worths):
        word = "from" if at & 1 else "beyond"
        steps.append((word, (at + 1) // 2, worth))
    return plain(Rule(rule_text(box, bound, steps)))
