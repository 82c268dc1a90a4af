"""Section 4: rules and what lots fill."""

import unittest
from fractions import Fraction
from random import Random

from sizesreckoned.errors import BadLot, BadMany, BadRule, BadSize, BadWorth, Great, NoStep
from sizesreckoned.rules import Rule, filled
from tests.checking import HALF, THIRDS, Checks, any_values
from tests.reckoning import fills, parts, reckons, some_size, some_texts, worth

# The number of the wrong line, and the text.
WRONG = [
    (1, ""), (1, "\n"), (1, "box"), (1, "box "), (1, "box 0\nbound 1"), (1, "box 61\nbound 1"), (1, "box -1\nbound 1"),
    (1, "box 01\nbound 1"), (1, "box +1\nbound 1"), (1, "box 1 \nbound 1"), (1, " box 1\nbound 1"),
    (1, "box  1\nbound 1"), (1, "Box 1\nbound 1"), (1, "box 1 1\nbound 1"), (1, "box 1_0\nbound 1"),
    (1, "box x\nbound 1"), (1, "box 1.0\nbound 1"), (1, "bound 1\nbox 1"), (1, "from 1 1"), (1, "box 1000000000"),
    (1, "box " + "9" * 3900), (1, "\nbox 1\nbound 1"), (1, "bound 1"),
    (2, "box 1"), (2, "box 60"), (2, "box 1\n"), (2, "box 1\nbound"), (2, "box 1\nbound 0"), (2, "box 1\nbound -1"),
    (2, "box 1\nbound 1000000000"), (2, "box 1\nbound 01"), (2, "box 1\nbound 1 "), (2, "box 1\nbound 1 1"),
    (2, "box 1\nbox 1\nbound 1"), (2, "box 1\nfrom 1 1\nbound 1"), (2, "box 1\n\nbound 1"),
    (2, "box 1\nbound 99999999999999999999"), (2, "box 1\nbound x\nfrom 9 9"),
    (3, "box 2\nbound 2\n"), (3, "box 2\nbound 2\nbound 2"), (3, "box 2\nbound 2\nbox 2"),
    (3, "box 2\nbound 2\nfrom 0 1"), (3, "box 2\nbound 2\nfrom 3 1"), (3, "box 2\nbound 2\nbeyond 2 1"),
    (3, "box 2\nbound 2\nbeyond -1 1"), (3, "box 2\nbound 2\nfrom 1"), (3, "box 2\nbound 2\nfrom 1 1 1"),
    (3, "box 2\nbound 2\nfrom 1 -1"), (3, "box 2\nbound 2\nfrom 1 1000000000"), (3, "box 2\nbound 2\nfrom 01 1"),
    (3, "box 2\nbound 2\nfrom 1 01"), (3, "box 2\nbound 2\nfrom 1 00"), (3, "box 2\nbound 2\nfrom 1  1"),
    (3, "box 2\nbound 2\nfrom  1 1"), (3, "box 2\nbound 2\n from 1 1"), (3, "box 2\nbound 2\nfrom 1 1 "),
    (3, "box 2\nbound 2\nFrom 1 1"), (3, "box 2\nbound 2\nabove 1 1"), (3, "box 2\nbound 2\nfrom 1 x"),
    (3, "box 2\nbound 2\nfrom 1 " + "1" * 3900), (3, "box 2\nbound 2\nfrom 1 +1"), (3, "box 2\nbound 2\nfrom 1 -0"),
    (3, "box 1\nbound 2\nbeyond 1 1"), (3, "box 60\nbound 2\nbeyond 60 1"), (3, "box 60\nbound 2\nfrom 61 1"),
    (3, "box 2\nbound 2\n\nfrom 1 1"), (3, "box 2\nbound 2\nfrom 3 1\nfrom 4 1"),
    (4, "box 2\nbound 2\nfrom 1 1\nfrom 1 2"), (4, "box 2\nbound 2\nbeyond 1 1\nfrom 1 2"),
    (4, "box 2\nbound 2\nbeyond 1 1\nbeyond 1 1"), (4, "box 2\nbound 2\nfrom 2 1\nfrom 1 2"),
    (4, "box 2\nbound 2\nfrom 2 1\nbeyond 1 2"), (4, "box 2\nbound 2\nbeyond 1 1\nbeyond 0 2"),
    (4, "box 2\nbound 2\nfrom 1 1\nbeyond 0 1"), (4, "box 2\nbound 2\nfrom 1 1\n"),
    (4, "box 2\nbound 2\nbeyond 0 1\nfrom 0 1"), (4, "box 2\nbound 2\nfrom 1 1\nfrom 3 1\nfrom 9 9"),
    (5, HALF + "\nfrom 1 3"), (5, HALF + "\n"), (5, HALF + "\nbeyond 1 2"), (5, HALF + "\nbox 2"),
]

RIGHT = [
    "box 1\nbound 1", "box 60\nbound 999999999", "box 1\nbound 1\nbeyond 0 0\nfrom 1 999999999",
    "box 60\nbound 1\nfrom 60 0", "box 60\nbound 1\nbeyond 59 1\nfrom 60 1", "box 2\nbound 2\nbeyond 0 5\nfrom 2 1",
    HALF, THIRDS, "box 9\nbound 7\nbeyond 0 0\nfrom 1 4\nbeyond 1 4\nfrom 9 1",
]

NOT_LOTS = [
    [], [((1, 1), 1)], ([(1, 1), 1],), (([1, 1], 1),), (((1, 1), 0),), (((1, 1), -1),), (((1, 1), True),),
    (((1, 1), None),), (((1, 1), "1"),), (((1, 1), 1, 1),), (((1, 1),),), ((1, 1),), ((1, 1), 1), (((2, 2), 1),),
    (((0, 1), 1),), (((-1, 1), 1),), (((1, 0), 1),), (((True, 1), 1),), (((1, True), 1),), (((2, 4), 1),),
    (((1, 1), 1), ((1, 1), 1)), (((1, 1), 1), ((1, 2), 3), ((1, 1), 2)), (((1, 1), 1), None), (((1, 1), (1, 1)),),
    (((1, 1), 1), ((1, 2), 0)), ((((1, 1), 1),),), {(1, 1): 1}, "", "a", None, True, 0, 1,
]


class Texts(Checks):

    def test_wrong_texts_tell_their_first_wrong_line(self):
        for number, text in WRONG:
            with self.subTest(text=text[:60]):
                self.raises(BadRule, number, Rule, text)

    def test_what_is_no_string(self):
        for value in any_values():
            if not isinstance(value, str):
                self.raises(BadRule, 0, Rule, value)
        self.raises(BadRule, 0, Rule, 1)
        self.raises(BadRule, 0, Rule, b"box 1\nbound 1")
        self.raises(BadRule, 0, Rule, Rule(HALF))

    def test_right_texts(self):
        for text in RIGHT + some_texts(1, 100, 60, crumb=True):
            rule = Rule(text)
            box, bound, steps = parts(text)
            self.same([rule.text, rule.box, rule.bound, rule.steps], [text, box, bound, tuple(steps)])
            self.assertEqual(len(rule), len(steps))

    def test_all_steps_that_can_be(self):
        lines = ["box 60", "bound 1", "beyond 0 0"]
        for number in range(1, 61):
            lines.append(f"from {number} {number}")
            if number < 60:
                lines.append(f"beyond {number} 999999999")
        rule = Rule("\n".join(lines))
        self.assertEqual(len(rule), 120)
        self.assertEqual(rule.worth((60, 1)), 60)
        self.assertEqual(rule.worth((59 * 999999999 + 1, 999999999)), 999999999)
        self.assertEqual(rule.worth((1, 999999999)), 0)

    def test_equal_if_the_texts_are(self):
        self.assertTrue(Rule(HALF) == Rule(HALF))
        self.assertFalse(Rule(HALF) != Rule(HALF))
        self.assertFalse(Rule(HALF) == Rule(THIRDS))
        self.assertTrue(Rule(HALF) != Rule(THIRDS))
        # They tell the same, but not in the same words.
        self.assertFalse(Rule("box 1\nbound 1") == Rule("box 1\nbound 1\nfrom 1 0"))
        for value in [HALF, *any_values()]:
            if value != Rule(HALF) or not isinstance(value, Rule):
                self.assertFalse(Rule(HALF) == value)
                self.assertFalse(value == Rule(HALF))
                self.assertTrue(Rule(HALF) != value)

    def test_steps_in_rules(self):
        rule = Rule("box 2\nbound 2\nbeyond 0 0\nfrom 1 1\nbeyond 1 2")
        for step in rule.steps:
            self.assertIs(step in rule, True)
        for value in [("from", 1, 2), ("from", 1, True), ("from", True, 1), ("beyond", False, 0), ("beyond", 0, False),
                      ["from", 1, 1], ("from", "1", "1"), "from 1 1", "from", 0, 1, ("from", 1), ("from", 1, 1, 1),
                      (("from", 1, 1),), rule.steps, rule, ("from", 1, [1]), *any_values()]:
            self.assertIs(value in rule, False)
        self.assertIs(("from", 1, 1) in Rule("box 2\nbound 2"), False)
        self.assertEqual(len(Rule("box 2\nbound 2")), 0)


class Worths(Checks):

    def test_at_a_step_above_and_below(self):
        rule = Rule("box 3\nbound 9\nbeyond 0 1\nfrom 1 5\nbeyond 1 2\nfrom 3 4")
        tiny = 999999999
        for size, expected in [((1, tiny), 1), ((tiny - 1, tiny), 1), ((1, 1), 5), ((tiny + 1, tiny), 2), ((2, 1), 2),
                               ((3 * tiny - 1, tiny), 2), ((3, 1), 4)]:
            self.same(rule.worth(size), expected)

    def test_without_steps(self):
        self.same(Rule("box 1\nbound 1").worth((1, 1)), 0)
        self.same(Rule("box 1\nbound 1").boxes((((1, 2), 7),)), 0)

    def test_below_the_first_step(self):
        self.same(Rule("box 5\nbound 1\nbeyond 3 7").worth((3, 1)), 0)
        self.same(Rule("box 5\nbound 1\nbeyond 3 7").worth((31, 10)), 7)

    def test_many_rules(self):
        chance = Random(4)
        for text in some_texts(2, 150, 9, crumb=True):
            rule = Rule(text)
            for _ in range(10):
                size = some_size(chance, rule.box)
                self.same(rule.worth(size), worth(rule.steps, Fraction(*size)))

    def test_great_numbers(self):
        great = 10 ** 5000
        self.same(Rule(HALF).worth((great + 1, great)), 2)
        self.same(Rule(HALF).worth((great - 1, great)), 0)
        self.raises(BadSize, (2 * great + 1, great), Rule(HALF).worth, (2 * great + 1, great))

    def test_no_sizes(self):
        rule = Rule(HALF)
        for value in any_values():
            self.raises(BadSize, value, rule.worth, value)
        for value in [(3, 1), (21, 10), (2000000001, 1000000000), [1, 1], (1, 1, 1), 1, 2, (4, 2), (1.0, 1)]:
            self.raises(BadSize, value, rule.worth, value)


class Lots(Checks):

    def test_filled(self):
        for lot, expected in [((), (0, 1)), ((((1, 2), 2),), (1, 1)), ((((1, 3), 2), ((1, 2), 1)), (7, 6)),
                              ((((1, 2), 1), ((1, 3), 2)), (7, 6)), ((((70, 1), 3),), (210, 1)),
                              ((((1, 6), 1), ((1, 3), 1), ((1, 2), 1)), (1, 1)),
                              ((((1, 999999999), 999999999),), (1, 1))]:
            self.same(filled(lot), expected)

    def test_filled_by_many(self):
        chance = Random(5)
        for many in range(40):
            sizes = {some_size(chance, 100) for _ in range(many)}
            lot = tuple((size, chance.randint(1, 50)) for size in sorted(sizes))
            total = fills(lot)
            self.same(filled(lot), (total.numerator, total.denominator))
            self.same(filled(lot[::-1]), filled(lot))

    def test_filled_by_great_numbers(self):
        great = 10 ** 5000
        self.same(filled((((1, great), great),)), (1, 1))
        self.same(filled((((great, 1), great), ((1, great), 1))), (great ** 3 + 1, great))

    def test_reckoned_and_boxes(self):
        rule = Rule(HALF)
        for lot, reckoned, boxes in [((), 0, 0), ((((1, 2), 99),), 0, 0), ((((1, 1), 1),), 1, 1), ((((1, 1), 2),), 2, 1),
                                     ((((1, 1), 3),), 3, 2), ((((2, 1), 1), ((1, 1), 1)), 3, 2),
                                     ((((11, 10), 5), ((1, 3), 4)), 10, 5), ((((1, 1), 10 ** 40),), 10 ** 40, 5 * 10 ** 39)]:
            self.same(rule.reckoned(lot), reckoned)
            self.same(rule.boxes(lot), boxes)

    def test_reckoned_by_many_rules(self):
        chance = Random(6)
        for text in some_texts(3, 150, 9, crumb=True):
            rule = Rule(text)
            lot = tuple((size, chance.randint(1, 9)) for size in sorted({some_size(chance, rule.box) for _ in range(6)}))
            told = reckons(text, lot)
            self.same(rule.reckoned(lot), told)
            self.same(rule.boxes(lot), told // rule.bound + (1 if told % rule.bound else 0))

    def test_no_lots(self):
        rule = Rule(HALF)
        for value in NOT_LOTS + [value for value in any_values() if value != ()]:
            for call in (filled, rule.reckoned, rule.boxes):
                self.raises(BadLot, value, call, value)

    def test_sizes_that_the_box_is_too_small_for(self):
        rule = Rule(HALF)
        for lot in [(((3, 1), 1),), (((1, 1), 1), ((21, 10), 1)), (((2000000001, 1000000000), 1),)]:
            self.same(filled(lot), (fills(lot).numerator, fills(lot).denominator))
            for call in (rule.reckoned, rule.boxes):
                self.raises(BadLot, lot, call, lot)
        self.same(rule.reckoned((((2, 1), 1),)), 2)


class Changed(Checks):

    def test_times(self):
        rule = Rule("box 3\nbound 4\nbeyond 0 0\nfrom 1 2\nbeyond 1 7")
        self.assertEqual(rule.times(1), rule)
        self.same(rule.times(99).text, "box 3\nbound 396\nbeyond 0 0\nfrom 1 198\nbeyond 1 693")
        self.same(rule.text, "box 3\nbound 4\nbeyond 0 0\nfrom 1 2\nbeyond 1 7")

    def test_times_wrong(self):
        for value in [*any_values(), 100, 1000, "2", (2,)]:
            self.raises(BadMany, value, Rule(HALF).times, value)

    def test_times_too_great(self):
        for text, most in [("box 1\nbound 999999999", 1), ("box 1\nbound 1\nfrom 1 999999999", 1),
                           ("box 1\nbound 1\nbeyond 0 500000000\nfrom 1 0", 1), ("box 1\nbound 500000000", 1),
                           ("box 1\nbound 499999999\nfrom 1 3", 2), ("box 1\nbound 333333333\nfrom 1 333333333", 3)]:
            self.assertEqual(Rule(text).times(most).bound, most * Rule(text).bound)
            self.raises(Great, 999999999, Rule(text).times, most + 1)
            self.raises(BadMany, 100, Rule(text).times, 100)

    def test_with_worth(self):
        rule = Rule(HALF)
        self.same(rule.with_worth(0, 0).text, "box 2\nbound 2\nfrom 1 0\nbeyond 1 2")
        self.same(rule.with_worth(1, 999999999).text, "box 2\nbound 2\nfrom 1 1\nbeyond 1 999999999")
        self.assertEqual(rule.with_worth(0, 1), rule)
        self.same(rule.text, HALF)

    def test_with_worth_wrong(self):
        for value in any_values():
            if not (type(value) is int and value == 0):
                self.raises(NoStep, value, Rule(HALF).with_worth, value, 1)
                self.raises(NoStep, value, Rule(HALF).with_worth, value, -1)
                self.raises(BadWorth, value, Rule(HALF).with_worth, 0, value)
        self.raises(NoStep, 2, Rule(HALF).with_worth, 2, 1)
        self.raises(NoStep, 0, Rule("box 2\nbound 2").with_worth, 0, 1)
        self.raises(BadWorth, 1000000000, Rule(HALF).with_worth, 1, 1000000000)
        self.raises(BadWorth, -1, Rule(HALF).with_worth, 1, -1)


if __name__ == "__main__":
    unittest.main()
