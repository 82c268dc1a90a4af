"""The cheapest way to make a rule right."""

from sizesreckoned.errors import BadOffers
from sizesreckoned.rules import with_worths
from sizesreckoned.sound import judged, shows_judged
from sizesreckoned.kinds import is_pair, is_whole, is_whole_up_to

MOST_OFFERS = 5
DEAREST = 99


def check_offers(rule, offers):
    """Raise that these are no offers for the rule."""
    if not is_offers(rule, offers):
        raise BadOffers(offers)


def is_offers(rule, value):
    """Tell whether the value is offers for the rule."""
    if not isinstance(value, tuple) or not 1 <= len(value) <= MOST_OFFERS:
        return False
    if not all([is_offer(rule, offer) for offer in value]):
        return False
    return all([value[at][0] < value[at + 1][0] for at in range(len(value) - 1)])


def is_offer(rule, value):
    """Tell whether the value is an offer for the rule."""
    if not isinstance(value, tuple) or len(value) != 3:
        return False
    number, worth, price = value
    if not is_whole_up_to(number, 0, len(rule) - 1) or not is_whole_up_to(price, 1, DEAREST):
        return False
    return is_whole_up_to(worth, 0, rule.steps[number][2] - 1)


def price_of(offers, choice):
    """Return the price of the choice."""
    return sum([offers[at][2] for at in choice])


def priced_choices(offers):
    """Return (price, choice) for all choices of the offers, in their sequence."""
    choices = [()]
    for at in range(len(offers)):
        choices = [*choices, *[(*choice, at) for choice in choices]]
    rows = sorted([(price_of(offers, choice), len(choice), choice) for choice in choices])
    return [(price, choice) for price, _, choice in rows]


def rule_by(rule, offers, choice):
    """Return the rule with the worths of the chosen offers."""
    return with_worths(rule, [(offers[at][0], offers[at][1]) for at in choice])


def cheapest(rule, offers):
    """Return the first choice that makes the rule sound, why it does, and why no choice ahead of it does."""
    check_offers(rule, offers)
    reasons = []
    for price, choice in priced_choices(offers):
        word, shown = judged(rule_by(rule, offers, choice))
        if word == "sound":
            return ("choice", price, choice, shown, tuple(reasons))
        reasons.append((choice, shown))
    return ("none", tuple(reasons))


def shows_cheapest(rule, offers, value):
    """Tell whether the value is right as what cheapest tells of the rule and the offers."""
    check_offers(rule, offers)
    if not isinstance(value, tuple):
        return False
    rows = priced_choices(offers)
    choices = [choice for _, choice in rows]
    if len(value) == 2 and value[0] == "none":
        return are_reasons(rule, offers, choices, value[1])
    if len(value) != 5 or value[0] != "choice":
        return False
    _, price, choice, table, reasons = value
    if not is_whole(price, 0) or not is_choice(choice) or (price, choice) not in rows:
        return False
    if not are_reasons(rule, offers, choices[:choices.index(choice)], reasons):
        return False
    return shows_judged(rule_by(rule, offers, choice), ("sound", table))


def is_choice(value):
    """Tell whether the value looks like a choice."""
    return isinstance(value, tuple) and all([is_whole(at, 0) for at in value])


def are_reasons(rule, offers, choices, value):
    """Tell whether the value has for each of the choices, in sequence, a lot that shows that it is not enough."""
    if not isinstance(value, tuple) or len(value) != len(choices):
        return False
    return all([is_reason(rule, offers, choice, reason) for choice, reason in zip(choices, value)])


def is_reason(rule, offers, choice, value):
    """Tell whether the value is this choice and a lot that shows that it is not enough."""
    if not is_pair(value) or not is_choice(value[0]) or value[0] != choice:
        return False
    return shows_judged(rule_by(rule, offers, choice), ("broken", value[1]))
