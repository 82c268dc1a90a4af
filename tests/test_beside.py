"""Section 10: within, shows_within, needed, shows_needed."""

import unittest
from fractions import Fraction
from itertools import product
from random import Random

from sizesreckoned.beside import needed, shows_needed, shows_within, within
from sizesreckoned.errors import BadRules, NoRule, OtherBox
from sizesreckoned.making import finer, rounding
from sizesreckoned.rules import Rule
from sizesreckoned.sound import judged
from tests.checking import HALF, THIRDS, Checks, any_values
from tests.reckoning import (halves, mixture_covers, parts, share_of, some_size, some_text, tells, tells_more, text_of,
                             worth)

LOW, HIGH = "box 2\nbound 1\nfrom 2 1", "box 2\nbound 1\nbeyond 1 1"
MOST = 999999999


def great_text(chance, less=0):
    """Return the text of a rule of box 60 with all steps and great worths."""
    bound = MOST - chance.randint(0, 10)
    return text_of(60, bound, [max(0, chance.randint(0, MOST) - less) for _ in range(120)])


def mixed_text(chance, texts, more):
    """Return the text of a rule that tells about what a mixture of the others tells, and so much more."""
    box = parts(texts[0])[0]
    times = [chance.randint(0, 3) for _ in texts]
    times[chance.randrange(len(texts))] += 1
    bound = chance.choice((60, 997, MOST))
    worths = []
    for size in halves(box):
        mixed = sum(many * share_of(text, size) for text, many in zip(texts, times)) / sum(times) * bound
        worths.append(min(MOST, max(0, int(mixed) + more)))
    return text_of(box, bound, worths)


def texts_of_one_box(chance, many, widest, crumb=False):
    """Return texts of rules of one box by chance."""
    box = chance.randint(1, widest)
    return [some_text(chance, box, crumb, box) for _ in range(many)]


class Within(Checks):

    def check(self, one, other):
        """Check what within tells of two rules, and return the first word."""
        value = within(Rule(one), Rule(other))
        self.assertIs(type(value), tuple)
        right = all(share_of(one, size) <= share_of(other, size) for size in halves(parts(one)[0]))
        if right:
            self.same(value, ("within",))
        else:
            word, lot = value
            self.assertEqual(word, "more")
            self.assertTrue(tells_more(one, [other], lot), (one, other, lot))
            self.assertGreater(Rule(one).boxes(lot), Rule(other).boxes(lot))
        self.assertIs(shows_within(Rule(one), Rule(other), value), True)
        self.assertIs(shows_within(Rule(one), Rule(other), ("within",)), right)
        return value[0]

    def test_many_rules(self):
        chance = Random(401)
        words = []
        for crumb in (False, False, True):
            for _ in range(120):
                one, other = texts_of_one_box(chance, 2, 6, crumb)
                words += [self.check(one, other), self.check(other, one), self.check(one, one)]
                words.append(self.check(mixed_text(chance, [one], chance.choice((-1, 0, 1))), one))
        self.assertGreater(words.count("within"), 200)
        self.assertGreater(words.count("more"), 200)

    def test_all_rules_of_box_1(self):
        texts = [text_of(1, bound, worths) for bound in (1, 2, 3) for worths in product(range(3), repeat=2)]
        for one in texts:
            for other in texts:
                self.check(one, other)

    def test_no_lot_is_told_more(self):
        chance = Random(402)
        done = 0
        while done < 60:
            one, other = texts_of_one_box(chance, 2, 4)
            if chance.random() < 0.5:
                one = mixed_text(chance, [other], -1)
            if within(Rule(one), Rule(other)) == ("within",):
                for _ in range(10):
                    sizes = sorted({some_size(chance, parts(one)[0]) for _ in range(3)})
                    lot = tuple((size, chance.choice((1, 2, 7, MOST))) for size in sizes)
                    self.assertLessEqual(tells(one, lot), tells(other, lot))
                    self.assertIs(shows_within(Rule(one), Rule(other), ("more", lot)), False)
                done += 1

    def test_a_little_more(self):
        base = text_of(2, MOST, [0, 5, 5, MOST])
        for worths in ([0, 5, 5, MOST - 1], [0, 5, 5, MOST], [0, 6, 5, MOST], [1, 0, 0, 0], [0, 0, 6, 0]):
            self.check(text_of(2, MOST, worths), base)
        # 1 / 999999998 is more than 1 / 999999999, but by very little.
        self.assertEqual(self.check("box 1\nbound 999999998\nfrom 1 1", "box 1\nbound 999999999\nfrom 1 1"), "more")
        self.assertEqual(self.check("box 1\nbound 999999999\nfrom 1 1", "box 1\nbound 999999998\nfrom 1 1"), "within")
        self.assertEqual(self.check("box 1\nbound 999999999\nfrom 1 999999998", "box 1\nbound 999999998\nfrom 1 999999997"),
                         "more")

    def test_single_spaces(self):
        for box in (1, 3, 60):
            base = [7] * (2 * box)
            for at in {0, 1, box, 2 * box - 2, 2 * box - 1}:
                more = [*base[:at], 8, *base[at + 1:]]
                self.assertEqual(self.check(text_of(box, 9, more), text_of(box, 9, base)), "more")
                self.assertEqual(self.check(text_of(box, 9, base), text_of(box, 9, more)), "within")

    def test_the_widest_box(self):
        chance = Random(403)
        for _ in range(10):
            one, other = great_text(chance), great_text(chance)
            self.check(one, other)
            self.check(mixed_text(chance, [one], 0), one)
        self.check(text_of(60, 1, [MOST] * 120), text_of(60, MOST, [0] * 119 + [1]))

    def test_rules_that_are_not_sound(self):
        self.same(within(Rule(THIRDS), Rule("box 3\nbound 1\nbeyond 0 1")), ("within",))
        self.assertEqual(self.check("box 3\nbound 1\nbeyond 0 1", THIRDS), "more")

    def test_other_boxes(self):
        half = Rule(HALF)
        for value in [*[value for value in any_values() if value != half], HALF, Rule(THIRDS), Rule("box 1\nbound 1"),
                      Rule("box 60\nbound 2"), [half], (half,), (half, half)]:
            self.raises(OtherBox, value, within, half, value)
            for told in (None, ("within",), ("more", (((1, 1), 1),))):
                self.raises(OtherBox, value, shows_within, half, value, told)

    def test_shown(self):
        half, high = Rule(HALF), Rule(HIGH)
        self.same(within(high, half), ("within",))
        for value, right in [(("more", (((1, 1), 1),)), True), (("more", (((1, 1), 10 ** 40),)), True),
                             (("more", (((1, 1), 2), ((1, 2), 5))), True), (("more", (((1, 2), 5), ((1, 1), 2))), True),
                             (("more", (((2, 1), 1),)), False), (("more", (((1, 2), 1),)), False), (("more", ()), False),
                             (("more", [((1, 1), 1)]), False), (("more", ([(1, 1), 1],)), False),
                             (("more", (((1, True), 1),)), False), (("more", (((1, 1), True),)), False),
                             (("more", (((1, 1), 1), ((1, 1), 2))), False), (("more", (((2, 2), 1),)), False),
                             (("more", (((3, 1), 1), ((1, 1), 5))), False), (("more", (((1, 1), 0),)), False),
                             (("more", ((1, 1),)), False), (["more", (((1, 1), 1),)], False), (("more",), False),
                             (("more", (((1, 1), 1),), 1), False), (("within",), False), (["within"], False),
                             (("within", (((1, 1), 1),)), False), (("needed", (((1, 1), 1),)), False), ("within", False),
                             (("more", (((10 ** 5000, 1), 1),)), False),
                             (("more", (((10 ** 5000, 10 ** 5000 - 1), 1),)), False),
                             (("more", (((10 ** 5000 - 1, 10 ** 5000), 1), ((1, 1), 1))), True)]:
            self.assertIs(shows_within(half, high, value), right, value)
            if value != ("within",):
                self.assertIs(shows_within(high, half, value), False, value)
        self.assertIs(shows_within(high, half, ("within",)), True)
        self.assertIs(shows_within(half, half, ("within",)), True)

    def test_values_of_any_kind(self):
        for one, other in ((HALF, HIGH), (HIGH, HALF), (HALF, HALF)):
            for value in any_values() + ["within", "more", (("within",),), ("within", None), ["within"]]:
                self.assertIs(shows_within(Rule(one), Rule(other), value), False)
                self.assertIs(shows_within(Rule(one), Rule(other), ("more", value)), False)
                self.assertIs(shows_within(Rule(one), Rule(other), ("more", (value,))), False)
                self.assertIs(shows_within(Rule(one), Rule(other), ("more", ((value, 1),))), False)
                self.assertIs(shows_within(Rule(one), Rule(other), ("more", (((1, 1), value),))), False)
                self.assertIs(shows_within(Rule(one), Rule(other), (value,)),
                              value == "within" and (one, other) != (HALF, HIGH))


class Needed(Checks):

    def check(self, texts, number):
        """Check what needed tells of the rule of this number, and return the first word."""
        rules = tuple(Rule(text) for text in texts)
        value = needed(rules, number)
        self.assertIs(type(value), tuple)
        word, shown = value
        others = [*texts[:number], *texts[number + 1:]]
        if word == "needed":
            self.assertTrue(tells_more(texts[number], others, shown), (texts, number, value))
        else:
            self.assertEqual(word, "idle")
            self.same(shown, tuple(map(int, shown)))
            self.assertEqual(len(shown), len(others))
            self.assertTrue(mixture_covers(texts[number], others, shown), (texts, number, value))
        self.assertIs(shows_needed(rules, number, value), True)
        return word

    def test_many_rules(self):
        chance = Random(411)
        words = []
        for crumb in (False, False, True):
            for _ in range(80):
                texts = texts_of_one_box(chance, chance.randint(2, 4), 5, crumb)
                words += [self.check(texts, number) for number in range(len(texts))]
        self.assertGreater(words.count("idle"), 40)
        self.assertGreater(words.count("needed"), 40)

    def test_mixtures(self):
        chance = Random(412)
        words = []
        for _ in range(150):
            others = texts_of_one_box(chance, chance.randint(1, 3), 6)
            number = chance.randint(0, len(others))
            mixed = mixed_text(chance, others, chance.choice((-1, 0, 0, 1)))
            texts = [*others[:number], mixed, *others[number:]]
            words.append(self.check(texts, number))
        self.assertGreater(words.count("idle"), 30)
        self.assertGreater(words.count("needed"), 30)

    def test_a_mixture_that_covers_where_no_single_one_does(self):
        one, left, right = [text_of(1, 2, worths) for worths in ((1, 1), (2, 0), (0, 2))]
        rules = (Rule(left), Rule(one), Rule(right))
        self.assertEqual([within(Rule(one), rules[0])[0], within(Rule(one), rules[2])[0]], ["more", "more"])
        self.assertEqual([self.check([left, one, right], number) for number in range(3)], ["needed", "idle", "needed"])
        for times, covers in [((1, 1), True), ((5, 5), True), ((10 ** 40, 10 ** 40), True), ((1, 2), False), ((1, 0), False),
                              ((0, 1), False), ((0, 0), False), ((10 ** 40, 10 ** 40 + 1), False), ((-1, -1), False)]:
            self.assertIs(shows_needed(rules, 1, ("idle", times)), covers, times)

    def test_just_at_the_mixture(self):
        # Two thirds of one and one third of the other, and a little more or less.
        left, right = text_of(1, 3, (3, 0)), text_of(1, 5, (0, 5))
        for bound in (3, 3 * 10 ** 8):
            third = bound // 3
            for more, word in [(0, "idle"), (-1, "idle"), (1, "needed")]:
                for worths in [(2 * third + more, third), (2 * third, third + more)]:
                    self.assertEqual(self.check([text_of(1, bound, worths), left, right], 0), word)

    def test_no_small_lot_shows_that_an_idle_rule_is_needed(self):
        chance = Random(413)
        done = 0
        while done < 15:
            others = texts_of_one_box(chance, chance.randint(1, 3), 2)
            mixed = mixed_text(chance, others, chance.choice((-1, 0)))
            rules = tuple(Rule(text) for text in [mixed, *others])
            if needed(rules, 0)[0] == "idle":
                sizes = [(size.numerator, size.denominator) for size in halves(parts(mixed)[0])]
                for manys in product(range(4), repeat=len(sizes)):
                    lot = tuple((size, many) for size, many in zip(sizes, manys) if many > 0)
                    self.assertFalse(tells_more(mixed, others, lot))
                    self.assertIs(shows_needed(rules, 0, ("needed", lot)), False)
                done += 1

    def test_two_rules_as_within(self):
        chance = Random(414)
        for _ in range(100):
            one, other = texts_of_one_box(chance, 2, 4)
            if chance.random() < 0.4:
                one = mixed_text(chance, [other], 0)
            told = within(Rule(one), Rule(other))
            value = needed((Rule(one), Rule(other)), 0)
            self.assertEqual(value[0], {"within": "idle", "more": "needed"}[told[0]])
            if told[0] == "more":
                self.assertIs(shows_needed((Rule(one), Rule(other)), 0, ("needed", told[1])), True)
            else:
                self.assertIs(shows_needed((Rule(one), Rule(other)), 0, ("idle", (1,))), True)

    def test_equal_rules(self):
        for many in (2, 3, 4):
            for number in range(many):
                self.assertEqual(self.check([HALF] * many, number), "idle")
                rules = tuple(Rule(HALF) for _ in range(many))
                self.same(needed(rules, number), needed((Rule(HALF),) * many, number))

    def test_rules_that_tell_nothing(self):
        empty = "box 2\nbound 7"
        self.assertEqual(self.check([empty, empty], 0), "idle")
        self.assertEqual(self.check([empty, HALF, HIGH], 0), "idle")
        self.assertEqual(self.check([empty, HALF, HIGH], 1), "needed")
        self.assertEqual(self.check([HALF, empty, empty, empty], 0), "needed")
        self.assertEqual(self.check(["box 2\nbound 7\nbeyond 0 1", empty, empty], 0), "needed")

    def test_the_widest_box(self):
        chance = Random(415)
        words = []
        for _ in range(6):
            texts = [great_text(chance) for _ in range(4)]
            words += [self.check(texts, number) for number in range(4)]
        for _ in range(12):
            others = [great_text(chance, chance.choice((0, MOST // 2))) for _ in range(3)]
            words.append(self.check([*others, mixed_text(chance, others, chance.choice((-1, 0, 0, 1)))], 3))
        self.assertGreater(words.count("idle"), 2)
        self.assertGreater(words.count("needed"), 10)

    def test_very_little_more(self):
        chance = Random(416)
        for _ in range(20):
            others = [text_of(3, MOST - chance.randint(0, 3), [MOST - chance.randint(0, 3) for _ in range(6)])
                      for _ in range(3)]
            texts = [text_of(3, MOST - 1, [MOST - chance.randint(0, 3) for _ in range(6)]), *others]
            for number in range(4):
                self.check(texts, number)

    def test_rounding_rules(self):
        texts = [finer(rounding(steps), 60 // (steps + 1)).text for steps in (1, 2, 3, 4)]
        self.assertEqual([self.check(texts, number) for number in range(4)], ["needed"] * 4)
        for text in texts:
            self.assertEqual(judged(Rule(text))[0], "sound")


class NeededWrong(Checks):

    def test_rules(self):
        half, high, thirds = Rule(HALF), Rule(HIGH), Rule(THIRDS)
        for value in [*any_values(), half, (half,), (half,) * 5, (half,) * 60, [half, high], (half, thirds),
                      (half, high, thirds), (half, HIGH), (half, high, None), ((half, high),), {0: half, 1: high},
                      (half, (high,)), (half, True), (half, high, half, thirds), (HALF, HIGH)]:
            for number in (0, 1, 7, None, True):
                self.raises(BadRules, value, needed, value, number)
                self.raises(BadRules, value, shows_needed, value, number, ("idle", (1,)))

    def test_numbers(self):
        for many in (2, 3, 4):
            rules = (Rule(HALF),) * many
            for value in [*[value for value in any_values() if type(value) is not int or value < 0], many, many + 1, MOST,
                          "0", (0,), 10 ** 30]:
                self.raises(NoRule, value, needed, rules, value)
                self.raises(NoRule, value, shows_needed, rules, value, ("idle", (1,) * (many - 1)))
            self.assertEqual([needed(rules, 0)[0], needed(rules, many - 1)[0]], ["idle", "idle"])

    def test_shown_needed(self):
        rules = (Rule(HALF), Rule(HIGH), Rule(LOW))
        for value, right in [(("needed", (((1, 1), 1),)), True), (("needed", (((1, 1), 3),)), True),
                             (("needed", (((1, 1), 10 ** 40),)), True), (("needed", (((1, 2), 9), ((1, 1), 1))), True),
                             (("needed", (((2, 1), 1),)), False), (("needed", (((1, 2), 1),)), False),
                             (("needed", (((3, 2), 1),)), False), (("needed", ()), False), (("needed",), False),
                             (["needed", (((1, 1), 1),)], False), (("needed", [((1, 1), 1)]), False),
                             (("needed", (((1, 1), True),)), False), (("needed", (((True, 1), 1),)), False),
                             (("needed", (((1, 1), 1), ((1, 1), 1))), False), (("needed", (((5, 1), 1),)), False),
                             (("needed", (((1, 1), 1), ((5, 2), 1))), False), (("more", (((1, 1), 1),)), False),
                             (("needed", (((1, 1), 1),), 1), False), (("idle", (((1, 1), 1),)), False),
                             (("idle", (1, 1)), False), (("needed", (1, 1)), False)]:
            self.assertIs(shows_needed(rules, 0, value), right, value)
        # The lot is to be told more of than by each other one.
        self.assertIs(shows_needed(rules, 1, ("needed", (((3, 2), 1),))), False)
        self.assertIs(shows_needed((Rule(HIGH), Rule(LOW)), 0, ("needed", (((3, 2), 1),))), True)

    def test_shown_idle(self):
        rules = (Rule(LOW), Rule(HALF), Rule(HIGH))
        self.assertEqual(needed(rules, 0)[0], "idle")
        for times, right in [((1, 0), True), ((0, 1), True), ((1, 1), True), ((7, 10 ** 5000), True), ((0, 0), False),
                             ((1,), False), ((1, 1, 1), False), ((1, -1), False), ((True, 1), False), ((1, True), False),
                             ((1, False), False), ([1, 1], False), ((), False), ("11", False), ((1, "1"), False),
                             ((1, None), False), (((1,), 1), False), ((1, (0, 1)), False)]:
            self.assertIs(shows_needed(rules, 0, ("idle", times)), right, times)
            self.assertIs(shows_needed(rules, 0, ["idle", times]), False)
            self.assertIs(shows_needed(rules, 0, ("needed", times)), False)
            self.assertIs(shows_needed(rules, 0, ("idle", times, 1)), False)
            for word in ("within", "Idle", "", None, 1, ("idle",), ["idle"]):
                self.assertIs(shows_needed(rules, 0, (word, times)), False)
        self.same([shows_needed(rules, 2, ("idle", (0, 1))), shows_needed(rules, 2, ("idle", (1, 0)))], [True, False])
        self.same([shows_needed(rules, 2, ("idle", (1, 1))), shows_needed(rules, 1, ("idle", (1, 1)))], [False, False])

    def test_shares_of_unlike_bounds(self):
        # As many times as they are told, whatever the bounds are.
        rules = (Rule("box 1\nbound 10\nfrom 1 6"), Rule("box 1\nbound 2\nfrom 1 1"), Rule("box 1\nbound 3\nfrom 1 2"))
        for times, right in [((0, 1), True), ((1, 0), False), ((2, 3), True), ((2, 2), False), ((3, 4), False),
                             ((20000, 30000), True), ((20001, 30000), False)]:
            mixed = (Fraction(times[0], 2) + Fraction(2 * times[1], 3)) >= Fraction(6, 10) * sum(times)
            self.assertEqual(mixed, right)
            self.assertIs(shows_needed(rules, 0, ("idle", times)), right, times)

    def test_shown_by_chance(self):
        chance = Random(421)
        found = {True: 0, False: 0}
        for _ in range(100):
            others = texts_of_one_box(chance, chance.randint(1, 3), 4)
            mixed = mixed_text(chance, others, 0)
            rules = tuple(Rule(text) for text in [mixed, *others])
            for _ in range(6):
                times = tuple(chance.randint(0, 3) for _ in others)
                right = mixture_covers(mixed, others, times)
                self.assertIs(shows_needed(rules, 0, ("idle", times)), right)
                found[right] += 1
        self.assertGreater(min(found.values()), 50)

    def test_values_of_any_kind(self):
        rules = (Rule(HALF), Rule(HIGH), Rule(LOW))
        for number in range(3):
            for value in any_values() + ["idle", "needed", ("idle",), ("needed",)]:
                self.assertIs(shows_needed(rules, number, value), False)
                times = type(value) is tuple and len(value) == 2 and all(type(many) is int for many in value)
                others = [text for at, text in enumerate((HALF, HIGH, LOW)) if at != number]
                covers = times and mixture_covers((HALF, HIGH, LOW)[number], others, value)
                self.assertIs(shows_needed(rules, number, ("idle", value)), covers)
                self.assertIs(shows_needed(rules, number, ("needed", value)), False)
                self.assertIs(shows_needed(rules, number, ("needed", (value,))), False)
                self.assertIs(shows_needed(rules, number, ("needed", ((value, 1),))), False)
                self.assertIs(shows_needed(rules, number, (value, (((1, 1), 1),))), value == "needed" and number == 0)
                told = type(value) is int and value == 0 and number > 0
                self.assertIs(shows_needed(rules, number, ("idle", (1, value))), told)

    def test_nothing_is_changed(self):
        rules = (Rule(HALF), Rule(HIGH), Rule(LOW))
        before = [[rule.text, rule.box, rule.bound, rule.steps] for rule in rules]
        value = ["needed", [[[1, 1], 1]]]
        for number in range(3):
            self.same(needed(rules=rules, number=number), needed(rules, number))
            shows_needed(value=value, number=number, rules=rules)
        shows_within(value=value, other=rules[1], one=rules[0])
        self.same(within(other=rules[1], one=rules[0]), within(*rules[:2]))
        self.same([value, [[rule.text, rule.box, rule.bound, rule.steps] for rule in rules]],
                  [["needed", [[[1, 1], 1]]], before])

    def test_the_reckoning_of_shares(self):
        self.assertEqual([worth(parts(HALF)[2], Fraction(3, 2)), share_of(HALF, Fraction(1))], [2, Fraction(1, 2)])


if __name__ == "__main__":
    unittest.main()
