"""Section 11: offers, choices and their sequence, cheapest, shows_cheapest."""

import unittest
from itertools import product
from random import Random

from sizesreckoned.choosing import cheapest, shows_cheapest
from sizesreckoned.errors import BadOffers
from sizesreckoned.making import rounding
from sizesreckoned.rules import Rule
from sizesreckoned.sound import judged
from tests.checking import HALF, THIRDS, Checks, any_values
from tests.reckoning import (crumbs, least_table_that_holds, lot_breaks, parts, some_text, table_holds, text_of)

# Steps 0 to 4; each of the first four is too much for its own count of things.
FIVE = "box 12\nbound 12\nfrom 2 3\nfrom 3 4\nfrom 4 5\nfrom 6 7\nfrom 12 12"


def text_by(text, offers, choice):
    """Return the text of the rule by a choice."""
    lines = text.split("\n")
    for at in choice:
        number, worth, _ = offers[at]
        words = lines[2 + number].split(" ")
        lines[2 + number] = f"{words[0]} {words[1]} {worth}"
    return "\n".join(lines)


def right(text):
    """Tell whether a rule is right for all lots."""
    return crumbs(text) == 0 and least_table_that_holds(text)[-1] <= parts(text)[1]


def all_choices(offers):
    """Return (price, how many offers, choice) for all choices, in sequence."""
    found = []
    for taken in product((False, True), repeat=len(offers)):
        choice = tuple(at for at, here in enumerate(taken) if here)
        found.append((sum(offers[at][2] for at in choice), len(choice), choice))
    return sorted(found)


def expected(text, offers):
    """Return (price, choice, choices ahead), (None, None, all choices) if no choice makes the rule sound."""
    ahead = []
    for price, _, choice in all_choices(offers):
        if right(text_by(text, offers, choice)):
            return price, choice, ahead
        ahead.append(choice)
    return None, None, ahead


def some_offers(chance, text, highest=99):
    """Return offers by chance for a rule, None if it has no step that is worth something."""
    steps = parts(text)[2]
    numbers = [number for number, step in enumerate(steps) if step[2] > 0]
    if not numbers:
        return None
    numbers = sorted(chance.sample(numbers, chance.randint(1, min(5, len(numbers)))))
    return tuple((number, chance.choice((0, steps[number][2] - 1, chance.randrange(steps[number][2]))),
                  chance.randint(1, highest)) for number in numbers)


class Cheapest(Checks):

    def check(self, text, offers):
        """Check what cheapest tells, and return its first words."""
        value = cheapest(Rule(text), offers)
        self.assertIs(type(value), tuple)
        price, choice, ahead = expected(text, offers)
        if choice is None:
            self.same(value[:1], ("none",))
            self.assertEqual(len(value), 2)
        else:
            self.same(value[:3], ("choice", price, choice))
            self.assertEqual(len(value), 5)
            self.assertIs(type(value[3]), tuple)
            self.assertTrue(table_holds(text_by(text, offers, choice), value[3]))
        reasons = value[-1]
        self.same(tuple(reason[0] for reason in reasons), tuple(ahead))
        for reason in reasons:
            self.assertEqual(len(reason), 2)
            self.assertTrue(lot_breaks(text_by(text, offers, reason[0]), reason[1]))
            Rule(text).reckoned(reason[1])
        self.assertIs(shows_cheapest(Rule(text), offers, value), True)
        return value[0] if choice is None else len(choice)

    def test_many_rules(self):
        chance = Random(601)
        told = []
        for number in range(400):
            text = some_text(chance, 7, crumb=number % 5 == 0)
            if number % 2 == 0:
                # Of each whole number as many as fit come to the bound just so, if none is worth one more.
                more = {chance.randint(1, 6) for _ in range(number % 5)}
                text = "\n".join(["box 6", "bound 18", *[f"from {n} {3 * n + (n in more)}" for n in range(1, 7)]])
            offers = some_offers(chance, text, 3 if number % 3 else 99)
            if offers is not None:
                told.append(self.check(text, offers))
        for word in (0, 1, 2, "none"):
            self.assertGreater(told.count(word), 15, word)

    def test_five_offers(self):
        chance = Random(602)
        told = []
        for _ in range(150):
            often = chance.choice((0, 1, 3))
            steps = [f"from {n} {2 * n + (chance.randint(0, 3) < often)}" for n in (2, 3, 4, 6, 12)]
            text = "\n".join(["box 12", "bound 24", *steps])
            offers = tuple((number, chance.randrange(2 * (2, 3, 4, 6, 12)[number]), chance.randint(1, 4))
                           for number in range(5))
            told.append(self.check(text, offers))
        self.assertEqual({0, 1, 2, 3, 4, 5} - set(told), set())

    def test_sound_already(self):
        for text in (HALF, "box 1\nbound 1\nfrom 1 1", rounding(6).text):
            offers = ((0, 0, 99),)
            self.same(cheapest(Rule(text), offers)[:3], ("choice", 0, ()))
            self.same(cheapest(Rule(text), offers)[4], ())
            self.assertEqual(self.check(text, offers), 0)

    def test_example(self):
        self.assertEqual(self.check(THIRDS, ((0, 0, 5), (1, 1, 2))), 1)
        self.assertEqual(self.check(THIRDS, ((0, 0, 5),)), 1)
        self.same(cheapest(Rule(THIRDS), ((1, 1, 2),))[0], "none")
        self.same([reason[0] for reason in cheapest(Rule(THIRDS), ((1, 1, 2),))[1]], [(), (0,)])

    def test_two_choices_of_one_price(self):
        # Each of the two steps alone would do if it were worth nothing, but they are worth the same price.
        text = "box 2\nbound 3\nfrom 1 1\nfrom 2 4"
        self.same(cheapest(Rule(text), ((1, 3, 7),))[:3], ("choice", 7, (0,)))
        text = "box 6\nbound 6\nfrom 2 3\nfrom 3 4"
        self.same(cheapest(Rule(text), ((0, 2, 4), (1, 3, 4)))[:3], ("choice", 8, (0, 1)))
        text = "box 5\nbound 5\nfrom 2 2\nfrom 3 4"
        offers = ((0, 1, 4), (1, 3, 4))
        self.assertTrue(right(text_by(text, offers, (0,))) and right(text_by(text, offers, (1,))))
        self.same(cheapest(Rule(text), offers)[:3], ("choice", 4, (0,)))
        self.same([reason[0] for reason in cheapest(Rule(text), offers)[4]], [()])
        self.same(cheapest(Rule(text), ((0, 1, 4), (1, 3, 3)))[:3], ("choice", 3, (1,)))

    def test_fewer_offers_ahead_of_more_at_the_same_price(self):
        # (2,) costs as much as (0, 1), and stands ahead of it though it is greater as a tuple.
        text = "box 7\nbound 7\nfrom 1 1\nfrom 2 2\nfrom 3 9"
        offers = ((0, 0, 2), (1, 1, 3), (2, 2, 5))
        self.same([reason[0] for reason in cheapest(Rule(text), offers)[4]], [(), (0,), (1,)])
        self.same(cheapest(Rule(text), offers)[:3], ("choice", 5, (2,)))
        broken = "box 7\nbound 1\nfrom 1 9\nfrom 2 9\nfrom 3 9\nfrom 4 9"
        self.same([reason[0] for reason in cheapest(Rule(broken), offers)[1]],
                  [(), (0,), (1,), (2,), (0, 1), (0, 2), (1, 2), (0, 1, 2)])

    def test_all_choices_stand_in_sequence(self):
        broken = Rule("box 60\nbound 1\n" + "\n".join(f"from {n} 5" for n in range(1, 8)))
        chance = Random(603)
        for _ in range(60):
            numbers = sorted(chance.sample(range(7), chance.randint(1, 5)))
            offers = tuple((number, chance.randint(0, 4), chance.randint(1, 4)) for number in numbers)
            told = cheapest(broken, offers)
            self.same([told[0], *[reason[0] for reason in told[1]]],
                      ["none", *[choice for _, _, choice in all_choices(offers)]])

    def test_crumbs(self):
        self.assertEqual(self.check("box 3\nbound 2\nbeyond 0 1\nfrom 2 1", ((0, 0, 1),)), 1)
        self.assertEqual(self.check("box 3\nbound 2\nbeyond 0 3\nfrom 2 1", ((0, 1, 1), (1, 0, 2))), "none")

    def test_great_rules(self):
        chance = Random(604)
        for _ in range(6):
            worths = [0]
            for place in range(2, 121):
                worths.append((place // 2) ** 2 + 7 * place + chance.randint(0, 3))
            bound = least_table_that_holds(text_of(60, 1, worths))[-1]
            for place in chance.sample(range(60, 120), 5):
                worths[place] += 40
            text = text_of(60, bound, worths)
            steps = parts(text)[2]
            numbers = sorted(chance.sample(range(60, 120), 5))
            self.check(text, tuple((number, steps[number][2] - 41, chance.randint(1, 99)) for number in numbers))

    def test_great_worths(self):
        text = "box 60\nbound 999999999\nfrom 20 333333333\nbeyond 20 500000000\nfrom 60 999999999"
        self.assertEqual(self.check(text, ((0, 0, 99), (1, 499999999, 98), (2, 999999998, 99))), 1)
        self.assertEqual(self.check(text, ((0, 333333332, 99), (2, 999999998, 99))), "none")

    def test_nothing_is_changed(self):
        rule = Rule(THIRDS)
        offers = ((0, 0, 5), (1, 1, 2))
        value = ("choice", 5, (0,), [0], [((), [])])
        self.assertIs(shows_cheapest(value=value, offers=offers, rule=rule), False)
        self.same(cheapest(offers=offers, rule=rule), cheapest(Rule(THIRDS), ((0, 0, 5), (1, 1, 2))))
        self.same([rule.text, offers, value], [THIRDS, ((0, 0, 5), (1, 1, 2)), ("choice", 5, (0,), [0], [((), [])])])


class WrongOffers(Checks):

    def wrong(self, value, rule=None):
        """Check that these are no offers for the rule."""
        rule = Rule(FIVE) if rule is None else rule
        self.raises(BadOffers, value, cheapest, rule, value)
        for told in (None, ("none", ()), cheapest(Rule(FIVE), ((0, 0, 1),)), value):
            self.raises(BadOffers, value, shows_cheapest, rule, value, told)

    def test_offers_that_are_right(self):
        rule = Rule(FIVE)
        for offers in [((0, 2, 1),), ((4, 11, 99),), ((0, 0, 1), (4, 0, 99)), tuple((at, 0, 50) for at in range(5))]:
            self.assertIn(cheapest(rule, offers)[0], ("choice", "none"))
            self.assertIs(shows_cheapest(rule, offers, None), False)

    def test_values_of_any_kind(self):
        for value in any_values():
            self.wrong(value)
            self.wrong([value])
            if value != (1, 2, 3):
                self.wrong((value,))
                self.wrong(((0, 0, 1), value))
            if type(value) is not int:
                for offer in ((value, 0, 1), (0, value, 1), (0, 0, value)):
                    self.wrong((offer,))

    def test_how_many(self):
        rule = Rule("box 9\nbound 9\n" + "\n".join(f"from {n} {n}" for n in range(1, 8)))
        self.same(cheapest(rule, tuple((at, 0, 1) for at in range(5)))[:3], ("choice", 0, ()))
        for value in ((), tuple((at, 0, 1) for at in range(6)), tuple((at, 0, 1) for at in range(7)),
                      ((0, 0, 1),) * 2, ((0, 0, 1),) * 6):
            self.wrong(value, rule)

    def test_one_step_twice_and_not_ascending(self):
        for value in [((0, 0, 1), (0, 1, 1)), ((0, 0, 1), (0, 0, 2)), ((1, 0, 1), (0, 0, 1)),
                      ((0, 0, 1), (2, 0, 1), (1, 0, 1)), ((0, 0, 1), (1, 0, 1), (1, 1, 1))]:
            self.wrong(value)

    def test_numbers_of_steps(self):
        for number in (5, 6, -1, -5, 999999999, True, False, None, "0", (0,), 10 ** 30):
            self.wrong(((number, 0, 1),))
        self.wrong(((0, 0, 1),), Rule("box 3\nbound 3"))
        self.wrong(((0, 0, 1),), Rule("box 3\nbound 3\nfrom 1 0"))

    def test_worths(self):
        for worth in (3, 4, 12, 999999999, -1, True, False, None, "1", (1,)):
            self.wrong(((0, worth, 1),))
        self.wrong(((0, 2, 1), (4, 12, 1)))

    def test_prices(self):
        for price in (1, 99):
            self.assertEqual(cheapest(Rule(THIRDS), ((0, 0, price),))[:3], ("choice", price, (0,)))
        for price in (0, -1, 100, 999999999, True, False, None, "1", (1,), 10 ** 30):
            self.wrong(((0, 0, price),))
            self.wrong(((0, 0, 1), (1, 0, price)))

    def test_forms(self):
        for value in [[(0, 0, 1)], ([0, 0, 1],), ((0, 0),), ((0, 0, 1, 1),), (0, 0, 1), ((0, 0, 1), [1, 0, 1]),
                      {(0, 0, 1): 1}, (((0, 0, 1),),), ((0, 0, 1), ())]:
            self.wrong(value)


class Shown(Checks):

    def setUp(self):
        self.text = FIVE
        self.rule = Rule(FIVE)
        self.offers = ((0, 2, 3), (1, 3, 4), (2, 4, 4), (3, 6, 8), (4, 0, 1))
        self.value = cheapest(self.rule, self.offers)
        self.reasons = self.value[4]

    def shown(self, value, told, rule=None, offers=None):
        """Check that the value is told to be right, or not."""
        rule = self.rule if rule is None else rule
        self.assertIs(shows_cheapest(rule, offers or self.offers, value), told, value)

    def with_reason(self, at, reason):
        """Return the right value with another reason."""
        return (*self.value[:4], (*self.reasons[:at], reason, *self.reasons[at + 1:]))

    def test_many_choices_stand_ahead(self):
        self.same(self.value[:3], ("choice", 19, (0, 1, 2, 3)))
        self.assertEqual(len(self.reasons), 30)
        self.shown(self.value, True)

    def test_tables(self):
        by = text_by(self.text, self.offers, self.value[2])
        table = self.value[3]
        found = []
        for at in range(len(table)):
            for more in (-1, 1):
                changed = (*table[:at], table[at] + more, *table[at + 1:])
                found.append(table_holds(by, changed))
                self.shown((*self.value[:3], changed, self.reasons), found[-1])
        self.assertFalse(all(found))
        for wrong in [(*table, table[-1]), table[:-1], (), list(table), None, (True,) * len(table), (table,),
                      (False, *table[1:]), tuple(float(entry) for entry in table), tuple(str(entry) for entry in table),
                      judged(Rule(HALF))[1], ("sound", table)]:
            self.shown((*self.value[:3], wrong, self.reasons), False)
        self.shown((*self.value[:3], tuple(max(0, n // 2) for n in range(25)), self.reasons),
                   table_holds(by, tuple(n // 2 for n in range(25))))

    def test_tables_of_the_rule_itself(self):
        # The table is to hold for the rule by the choice, not for that by another one.
        rule, offers = Rule(THIRDS), ((0, 0, 5), (1, 1, 2))
        value = cheapest(rule, offers)
        for table in [(0, 0, 0, 0, 0, 2, 2), (0, 0, 0, 1, 2, 2, 2), (0, 0, 0, 0, 0, 1, 2), (0, 0, 0, 0, 0, 2, 3)]:
            self.shown(("choice", 5, (0,), table, value[4]), table_holds("box 3\nbound 2\nfrom 1 0\nbeyond 2 2", table),
                       rule, offers)

    def test_reasons(self):
        reasons = self.reasons
        for wrong in [reasons[1:], reasons[:-1], (*reasons, reasons[-1]), (reasons[0], *reasons), list(reasons), (),
                      None, (*reasons[:3], *reasons[4:]), (reasons[1], reasons[0], *reasons[2:]), reasons[::-1],
                      (*reasons, (self.value[2], reasons[0][1])), (*reasons[:5], reasons[4], *reasons[6:])]:
            self.shown((*self.value[:4], wrong), False)
        for at in (0, 1, 7, 29):
            choice, lot = reasons[at]
            self.shown(self.with_reason(at, (choice, lot)), True)
            for wrong in [(choice, ()), (choice, list(lot)), (list(choice), lot), [choice, lot], (choice, lot, 1),
                          (choice,), (lot, choice), (None, lot), (choice, None), ((*choice, 4), lot),
                          (choice[1:] + (0,), lot), ((choice,), lot), (choice, ((lot, 1),)), choice, lot]:
                self.shown(self.with_reason(at, wrong), False)

    def test_lots_of_reasons(self):
        for at in range(len(self.reasons)):
            choice = self.reasons[at][0]
            by = text_by(self.text, self.offers, choice)
            for lot in [(((2, 1), 6),), (((3, 1), 4),), (((4, 1), 3),), (((6, 1), 2),), (((12, 1), 1),),
                        (((2, 1), 7),), (((3, 1), 5),), (((2, 1), 3), ((6, 1), 1)), (((6, 1), 1), ((2, 1), 3)),
                        (((2, 1), 5),), (((2, 1), 5), ((2000001, 1000000), 1)), (((2, 1), 5), ((1999999, 1000000), 1)),
                        (((6, 1), 1), ((6000000001, 1000000000), 1)), (((13, 1), 1),), (((10 ** 30, 1), 1),)]:
                self.shown(self.with_reason(at, (choice, lot)), lot_breaks(by, lot))
            # These are no lots, or would be too much.
            for lot in [(((2, 1), 3), ((2, 1), 3)), (((4, 2), 6),), (((2, 1), True),), (((2, True), 6),),
                        (((2, 1), 6), ()), (((6, 1), 2), ((1, 999999999), 1)), (((2, 1), 6), ((1, 10 ** 40), 1))]:
                self.shown(self.with_reason(at, (choice, lot)), False)

    def test_lots_of_another_choice(self):
        found = {True: 0, False: 0}
        for at, (choice, _) in enumerate(self.reasons):
            by = text_by(self.text, self.offers, choice)
            for _, lot in self.reasons:
                told = lot_breaks(by, lot)
                found[told] += 1
                self.shown(self.with_reason(at, (choice, lot)), told)
        self.assertGreater(min(found.values()), 50)

    def test_prices_and_choices(self):
        _, price, choice, table, reasons = self.value
        for wrong in (0, 1, price - 1, price + 1, -price, str(price), None, (price,), True):
            self.shown(("choice", wrong, choice, table, reasons), False)
        for wrong in ((), (0,), (0, 1, 2), (0, 1, 2, 3, 4), (1, 0, 2, 3), (3, 2, 1, 0), (0, 1, 2, 4), list(choice),
                      None, (0, 1, 2, 3, 3), (False, True, 2, 3), (0, 1, 2, 3.0), choice + (5,), 0, (choice,), "0123"):
            self.shown(("choice", price, wrong, table, reasons), False)
        # The first one by which the rule is sound, not a later one.
        every = (0, 1, 2, 3, 4)
        by = text_by(self.text, self.offers, every)
        all_ahead = (*reasons, (choice, reasons[0][1]))
        for ahead in (reasons, all_ahead):
            self.shown(("choice", 20, every, least_table_that_holds(by), ahead), False)

    def test_true_for_1(self):
        rule, offers = Rule("box 2\nbound 3\nfrom 1 1\nfrom 2 4"), ((0, 0, 1), (1, 3, 1))
        value = cheapest(rule, offers)
        self.same(value[:3], ("choice", 1, (1,)))
        self.shown(value, True, rule, offers)
        for wrong in [("choice", True, (1,), *value[3:]), ("choice", 1, (True,), *value[3:]),
                      ("choice", 1, (1,), tuple(entry == 1 if entry < 2 else entry for entry in value[3]), value[4]),
                      ("choice", 1, (1,), value[3], (value[4][0], ((False,), value[4][1][1])))]:
            self.shown(wrong, False, rule, offers)
        sound = Rule(HALF)
        value = cheapest(sound, ((0, 0, 1),))
        self.shown(value, True, sound, ((0, 0, 1),))
        self.shown(("choice", False, *value[2:]), False, sound, ((0, 0, 1),))

    def test_none(self):
        rule, offers = Rule(THIRDS), ((1, 1, 2),)
        value = cheapest(rule, offers)
        self.same(value[0], "none")
        self.shown(value, True, rule, offers)
        reasons = value[1]
        for wrong in [("none", reasons[:1]), ("none", reasons[::-1]), ("none", (*reasons, reasons[0])),
                      ("none", list(reasons)), ("none",), ("none", reasons, 1), ["none", reasons], ("None", reasons),
                      (None, reasons), ("none", ()), ("choice", reasons), ("none", ((), ())),
                      ("none", (reasons[0], reasons[0])), ("choice", 2, (0,), (0,) * 7, reasons[:1]),
                      ("choice", 0, (), (0,) * 7, ())]:
            self.shown(wrong, False, rule, offers)
        # Where a choice does, not all can have a reason.
        for last in (self.reasons[0], (self.value[2], self.reasons[0][1])):
            self.shown(("none", (*self.reasons, last, last)), False)
        self.shown(("none", self.reasons), False)

    def test_values_of_any_kind(self):
        for value in any_values() + ["choice", "none"]:
            self.shown(value, False)
            self.shown(("none", value), False)
            self.shown((value, self.reasons), False)
            for at in range(5):
                told = at == 0 and value == "choice"
                self.shown((*self.value[:at], value, *self.value[at + 1:]), told)
            self.shown(self.with_reason(0, value), False)
            self.shown(self.with_reason(0, (value, self.reasons[0][1])), type(value) is tuple and value == ())
            self.shown(self.with_reason(0, ((), value)), False)
            self.shown(self.with_reason(0, ((), (value,))), False)
            self.shown(self.with_reason(0, ((), ((value, 1),))), False)
            self.shown((*self.value[:3], (value, *self.value[3][1:]), self.reasons), type(value) is int and value == 0)
        self.shown(list(self.value), False)
        self.shown((*self.value, None), False)
        self.shown(self.value[:4], False)

    def test_of_other_offers(self):
        for offers in [((0, 2, 3), (1, 3, 4), (2, 4, 4), (3, 6, 9), (4, 0, 1)),
                       ((0, 1, 3), (1, 3, 4), (2, 4, 4), (3, 6, 8), (4, 0, 1)),
                       ((0, 2, 3), (1, 3, 4), (2, 4, 4), (3, 6, 8))]:
            value = cheapest(self.rule, offers)
            self.shown(value, True, offers=offers)
            self.shown(self.value, self.value[:3] == value[:3] and len(self.reasons) == len(value[4]), offers=offers)


if __name__ == "__main__":
    unittest.main()
