"""Rules made of rules: rules that round, rules one behind the other, finer ones."""

from sizesreckoned.errors import BadMany, Great, OtherBox
from sizesreckoned.rules import WIDEST, Rule, rule_text
from sizesreckoned.sound import plain
from sizesreckoned.kinds import is_whole_up_to

MOST_STEPS = 40
MOST_FINE = 60


def rounding(steps):
    """Return the rule that rounds to so many steps."""
    if not is_whole_up_to(steps, 1, MOST_STEPS):
        raise BadMany(steps)
    rows = []
    for start in range(1, steps + 1):
        rows.append(("from", start, start * steps))
        rows.append(("beyond", start, start * (steps + 1)))
    return Rule(rule_text(steps + 1, steps * (steps + 1), rows))


def behind(one, other):
    """Return the rule that tells of each size what other tells of its worth by one."""
    if not isinstance(other, Rule) or other.box != one.bound:
        raise OtherBox(other)
    steps = [(word, start, worth_behind(other, worth)) for word, start, worth in one.steps]
    return plain(Rule(rule_text(one.box, other.bound, steps)))


def worth_behind(rule, worth):
    """Return what the rule tells of a worth as a size."""
    if worth == 0:
        return 0
    # By a rule that is not sound a worth may be more than the box behind it.
    return rule.worth((min(worth, rule.box), 1))


def finer(rule, many):
    """Return the rule with the box and all sizes so many times as great."""
    if not is_whole_up_to(many, 1, MOST_FINE):
        raise BadMany(many)
    if many * rule.box > WIDEST:
        raise Great(WIDEST)
    steps = [(word, many * start, worth) for word, start, worth in rule.steps]
    return Rule(rule_text(many * rule.box, rule.bound, steps))
