"""Section 6: greatest, shows_greatest, best_rules."""

import unittest
from fractions import Fraction
from itertools import product
from random import Random

from sizesreckoned.errors import BadBound, BadBox, Broken
from sizesreckoned.greatest import best_rules, greatest, shows_greatest
from sizesreckoned.rules import Rule
from sizesreckoned.sound import judged
from tests.checking import HALF, THIRDS, Checks, any_values
from tests.reckoning import (all_worths, halves, is_greatest, is_sound, lot_breaks, most_room, parts, shortest,
                             some_size, some_texts, text_of, worth)


def sound_texts():
    """Return texts of sound rules, greatest ones and others."""
    texts = [text for text in some_texts(61, 260, 4) + some_texts(62, 20, 8) if is_sound(text)]
    for box, bound in ((2, 2), (3, 4), (3, 8), (4, 6), (4, 8)):
        for text in best_rules(box, bound):
            texts.append(text)
            number, step = len(texts) % len(Rule(text)), Rule(text).steps[len(texts) % len(Rule(text))]
            texts.append(Rule(text).with_worth(number, max(0, step[2] - 1)).text)
    return texts


def number(value):
    """Return a Fraction as a number."""
    return (value.numerator, value.denominator)


class Greatest(Checks):

    def check(self, text):
        """Check what is told of a sound rule, and return the first word."""
        rule = Rule(text)
        value = greatest(rule)
        if is_greatest(text):
            self.same(value, ("greatest",))
        else:
            word, size, more = value
            self.assertEqual(word, "room")
            self.same(size, number(Fraction(*size)))
            self.same(more, number(Fraction(*more)))
            self.assertLessEqual(Fraction(*size), rule.box)
            self.assertGreater(Fraction(*more), worth(rule.steps, Fraction(*size)))
            self.assertLessEqual(Fraction(*more), most_room(text, Fraction(*size)))
        self.assertIs(shows_greatest(rule, value), True)
        self.assertIs(shows_greatest(rule, ("greatest",)), is_greatest(text))
        return value[0]

    def test_many_rules(self):
        words = [self.check(text) for text in sound_texts()]
        self.assertGreater(words.count("greatest"), 15)
        self.assertGreater(words.count("room"), 80)

    def test_all_rules_of_small_boxes(self):
        for box, bound in ((1, 1), (1, 4), (2, 2), (2, 3)):
            for worths in all_worths(box, bound):
                text = text_of(box, bound, worths)
                if is_sound(text):
                    self.check(text)

    def test_with_little_room(self):
        for text in ["box 1\nbound 1", "box 60\nbound 1", "box 60\nbound 999999999\nfrom 60 999999998",
                     "box 60\nbound 60\nfrom 1 1", "box 3\nbound 2\nbeyond 1 1\nfrom 2 2",
                     "box 3\nbound 2\nbeyond 1 1\nbeyond 2 2", "box 4\nbound 4\nfrom 1 1\nbeyond 1 0\nfrom 2 1"]:
            self.check(text)

    def test_rules_that_are_not_sound(self):
        for text in [THIRDS, "box 1\nbound 1\nbeyond 0 1", "box 60\nbound 1\nfrom 1 1"]:
            rule = Rule(text)
            for call in (greatest, *[lambda one, told=told: shows_greatest(one, told) for told in
                                     [("greatest",), ("room", (1, 1), (9, 1)), None, (), "room"]]):
                with self.assertRaises(Broken) as caught:
                    call(rule)
                self.assertIs(type(caught.exception), Broken)
                self.assertTrue(lot_breaks(text, caught.exception.value))

    def test_times(self):
        for text in sound_texts()[::4]:
            for many in (2, 99):
                self.assertEqual(greatest(Rule(text).times(many))[0], greatest(Rule(text))[0])

    def test_wider(self):
        for text in sound_texts()[::4]:
            box, bound, steps = parts(text)
            for many in (2, 5):
                lines = [f"{word} {many * start} {step_worth}" for word, start, step_worth in steps]
                wider = Rule("\n".join([f"box {many * box}", f"bound {bound}", *lines]))
                self.assertEqual(greatest(wider)[0], greatest(Rule(text))[0])


class Shown(Checks):

    def test_just_at_the_room(self):
        chance = Random(71)
        rooms = 0
        for text in sound_texts()[::2]:
            rule = Rule(text)
            for _ in range(4):
                size = some_size(chance, rule.box)
                if size[0] * 400 < size[1] * rule.box:
                    continue
                now = Fraction(worth(rule.steps, Fraction(*size)))
                most = most_room(text, Fraction(*size))
                little = Fraction(1, 10 ** 12)
                self.assertIs(shows_greatest(rule, ("room", size, number(most))), most > now)
                self.assertIs(shows_greatest(rule, ("room", size, number(most + little))), False)
                self.assertIs(shows_greatest(rule, ("room", size, number(now))), False)
                self.assertIs(shows_greatest(rule, ("room", size, number((most + now) / 2))), most > now)
                if now > 0:
                    self.assertIs(shows_greatest(rule, ("room", size, number(now - little))), False)
                rooms += most > now
        self.assertGreater(rooms, 100)

    def test_tiny_sizes(self):
        for box, bound in ((1, 1), (3, 7), (60, 999999999)):
            rule = Rule(f"box {box}\nbound {bound}")
            for many in (1, 2, 999999999, 10 ** 400):
                just = Fraction(bound, many * box)
                self.assertIs(shows_greatest(rule, ("room", (1, many), number(just))), True)
                self.assertIs(shows_greatest(rule, ("room", (1, many), number(just * Fraction(10 ** 420 + 1, 10 ** 420)))),
                              False)
        # What is left beside many tiny ones may be all of 1, but not with one more of them.
        rule = Rule("box 2\nbound 4\nfrom 1 2")
        for size, most in [((1, 10), Fraction(2, 10)), ((3, 10), Fraction(2, 3)), ((2, 3), Fraction(4, 3)),
                           ((999999999, 1000000000), Fraction(2)), ((1, 999999999), Fraction(2, 999999999))]:
            self.assertEqual(most, most_room(rule.text, Fraction(*size)) if size[1] < 100 else most)
            self.assertIs(shows_greatest(rule, ("room", size, number(most))), True)
            self.assertIs(shows_greatest(rule, ("room", size, number(most + Fraction(1, 10 ** 12)))), False)

    def test_room(self):
        rule = Rule(HALF).with_worth(0, 0)
        for value, right in [(("room", (1, 1), (1, 2)), True), (("room", (1, 1), (1, 1)), True),
                             (("room", (1, 1), (3, 2)), False), (("room", (1, 1), (0, 1)), False),
                             (("room", (1, 1), (1000000001, 1000000000)), False), (("room", (1, 1), (2, 2)), False),
                             (("room", (2, 2), (1, 2)), False), (("room", (3, 1), (1, 2)), False),
                             (("room", (1, 1), (2, 4)), False), (("room", (1, 1), (1, 0)), False),
                             (("room", (1, 1), (-1, 2)), False), (("room", (1, 1), 1), False),
                             (("room", (1, 1), (True, 1)), False), (("room", (1, True), (1, 2)), False),
                             (("room", (1, 1), (1, 2), 1), False), (("room", (1, 1)), False), (("room",), False),
                             (["room", (1, 1), (1, 2)], False), (("room", [1, 1], (1, 2)), False),
                             (("room", (1, 1), [1, 2]), False), (("Room", (1, 1), (1, 2)), False),
                             (("greatest",), False), (["greatest"], False), ("greatest", False), (("greatest", 1), False),
                             (("room", (0, 1), (1, 2)), False), (("room", (3, 2), (2, 1)), False),
                             (("greatest", (1, 1), (1, 2)), False)]:
            self.assertIs(shows_greatest(rule, value), right, value)
        self.assertIs(shows_greatest(Rule(HALF), ("greatest",)), True)
        self.assertIs(shows_greatest(Rule(HALF), ["greatest"]), False)

    def test_values_of_any_kind(self):
        for rule in (Rule(HALF), Rule(HALF).with_worth(0, 0)):
            for value in any_values() + ["greatest", "room"]:
                self.assertIs(shows_greatest(rule, value), False)
                self.assertIs(shows_greatest(rule, ("room", value, (1, 2))), False)
                self.assertIs(shows_greatest(rule, ("room", (1, 1), value)), False)
                self.assertIs(shows_greatest(rule, (value, (1, 1), (1, 2))), value == "room" and len(rule.steps) == 2
                              and rule.steps[0][2] == 0)
                self.assertIs(shows_greatest(rule, (value,)), value == "greatest" and rule == Rule(HALF))


class Best(Checks):

    def test_all_rules_of_small_boxes(self):
        for box, bound in ((1, 1), (1, 2), (1, 8), (2, 1), (2, 2), (2, 3), (2, 4), (3, 1), (3, 2), (3, 3), (4, 1), (4, 2)):
            found = []
            for worths in all_worths(box, bound):
                text = text_of(box, bound, worths)
                if is_sound(text) and is_greatest(text):
                    found.append(shortest(box, bound, worths))
            self.same(best_rules(box, bound), tuple(sorted(found)))

    def test_greater_bounds(self):
        for box in (2, 3, 4):
            for bound in (4, 5, 6, 7, 8):
                found = []
                for lower in product(range(bound + 1), repeat=box):
                    # Each space beside what is left, that of half a box beside itself.
                    worths = (*lower, *[bound - worth_ for worth_ in reversed(lower[:-1])], bound)
                    if 2 * lower[-1] == bound:
                        text = text_of(box, bound, worths)
                        if is_sound(text) and is_greatest(text):
                            found.append(shortest(box, bound, worths))
                self.same(best_rules(box, bound), tuple(sorted(found)))
                for text in found:
                    self.same(greatest(Rule(text)), ("greatest",))
                    self.assertEqual(judged(Rule(text))[0], "sound")

    def test_no_better_rule_is_sound(self):
        for box, bound in ((2, 4), (3, 4), (4, 4)):
            for text in best_rules(box, bound):
                told = [worth(parts(text)[2], size) for size in halves(box)]
                for at in range(2 * box):
                    for more in range(told[at] + 1, bound + 1):
                        self.assertFalse(is_sound(text_of(box, bound, [*told[:at], more, *told[at + 1:]])))

    def test_wrong_arguments(self):
        for value in [*any_values(), 5, 60, "1", (1,)]:
            self.raises(BadBox, value, best_rules, value, 2)
            self.raises(BadBox, value, best_rules, value, 0)
        for value in [*any_values(), 9, 999999999, "1"]:
            self.raises(BadBound, value, best_rules, 1, value)
            self.raises(BadBox, 5, best_rules, 5, value)
        self.same(best_rules(1, 1), ())
        self.assertEqual(len(best_rules(4, 8)), 6)


if __name__ == "__main__":
    unittest.main()
