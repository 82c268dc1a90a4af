"""Rules of one box beside one another: which one tells more boxes, and whether one is needed."""

from sizesreckoned.errors import BadRules, NoRule, OtherBox
from sizesreckoned.rules import Rule, size_in
from sizesreckoned.mixed import mixture
from sizesreckoned.kinds import is_lot_up_to, is_pair, is_whole, is_whole_up_to, reduced

FEWEST_RULES = 2
MOST_RULES = 4


def surplus(one, other, space):
    """Return how much more one tells of the space than other, as shares of the bounds, times both bounds."""
    return one.worths[space] * other.bound - other.worths[space] * one.bound


def spaces_of(rule):
    """Return the spaces in which sizes are."""
    return list(range(1, 2 * rule.box + 1))


def check_other(one, other):
    """Raise that other is no rule with the box of one."""
    if not isinstance(other, Rule) or other.box != one.box:
        raise OtherBox(other)


def within(one, other):
    """Tell whether one never tells more boxes than other, otherwise a lot for which it does."""
    check_other(one, other)
    for space in spaces_of(one):
        more = surplus(one, other, space)
        if more > 0:
            return ("more", ((size_in(space), times_for_one(one, other, more)),))
    return ("within",)


def shows_within(one, other, value):
    """Tell whether the value is right as what within tells of the rules."""
    check_other(one, other)
    if value == ("within",):
        return all([surplus(one, other, space) <= 0 for space in spaces_of(one)])
    return is_pair(value) and value[0] == "more" and tells_more(one, [other], value[1])


def tells_more(rule, others, value):
    """Tell whether the value is a lot for which the rule tells more boxes than each other one."""
    if not is_lot_up_to(value, rule.box):
        return False
    boxes = rule.boxes(value)
    return all([boxes > other.boxes(value) for other in others])


def check_rules(rules, number):
    """Raise what is wrong of rules and the number of one of them."""
    if not is_rules(rules):
        raise BadRules(rules)
    if not is_whole_up_to(number, 0, len(rules) - 1):
        raise NoRule(number)


def is_rules(value):
    """Tell whether the value is a tuple of two to four rules with the same box."""
    if not isinstance(value, tuple) or not FEWEST_RULES <= len(value) <= MOST_RULES:
        return False
    if not all([isinstance(rule, Rule) for rule in value]):
        return False
    return all([rule.box == value[0].box for rule in value])


def others_of(rules, number):
    """Return all rules but the one of this number."""
    return [*rules[:number], *rules[number + 1:]]


def needed(rules, number):
    """Tell a lot for which this rule tells more boxes than each other one, or a mixture of these that covers it."""
    check_rules(rules, number)
    rule = rules[number]
    others = others_of(rules, number)
    rows = surpluses(rule, others)
    shares, prices, _ = mixture(rows, 0, [1] * len(others))
    # If sizes alone come to more than each other rule tells of them, nothing costs anything.
    if any(shares[:len(others)]):
        return ("idle", tuple(reduced([price * other.bound for price, other in zip(prices, others)])))
    parts = reduced(shares[len(others):])
    many = times_for_a_box(rule, others, rows, parts)
    return ("needed", tuple([(size_in(at + 1), many * part) for at, part in enumerate(parts) if part > 0]))


def surpluses(rule, others):
    """Return for each space in which sizes are how much more the rule tells of it than each other one."""
    return [[surplus(rule, other, space) for other in others] for space in spaces_of(rule)]


def times_for_a_box(rule, others, rows, parts):
    """Return how many times these parts come to a whole box more than each other rule tells of them."""
    many = 1
    for at, other in enumerate(others):
        more = sum([part * row[at] for part, row in zip(parts, rows)])
        many = max(many, times_for_one(rule, other, more))
    return many


def times_for_one(one, other, more):
    """Return how many times so much more, times both bounds, is a whole box, which rounding does not hide."""
    return -(-one.bound * other.bound // more)


def shows_needed(rules, number, value):
    """Tell whether the value is right as what needed tells of the rule of this number."""
    check_rules(rules, number)
    if not is_pair(value):
        return False
    word, shown = value
    others = others_of(rules, number)
    if word == "needed":
        return tells_more(rules[number], others, shown)
    return word == "idle" and is_times(others, shown) and covers_rule(rules[number], others, shown)


def is_times(others, value):
    """Tell whether the value is a tuple of integers from 0 on, one for each of the others, not all 0."""
    if not isinstance(value, tuple) or len(value) != len(others):
        return False
    return all([is_whole(times, 0) for times in value]) and any(value)


def covers_rule(rule, others, times):
    """Tell whether the others, so many times, come for each size to as much as the rule as many times."""
    together = product_of([other.bound for other in others])
    # Each surplus is over the bound of its own rule, so all are brought to one.
    shares = [many * (together // other.bound) for many, other in zip(times, others)]
    rows = surpluses(rule, others)
    return all([sum([share * more for share, more in zip(shares, row)]) <= 0 for row in rows])


def product_of(numbers):
    """Return the product of the integers."""
    found = 1
    for number in numbers:
        found = found * number
    return found
