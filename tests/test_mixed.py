"""Section 8: best, shows_best; and the guarantees (b), (c), (e)."""

import unittest
from fractions import Fraction
from random import Random

from sizesreckoned.errors import BadBox, BadThings, Many
from sizesreckoned.making import finer, rounding
from sizesreckoned.mixed import best, shows_best
from sizesreckoned.rules import Rule
from sizesreckoned.sound import judged
from tests.checking import HALF, Checks, any_values
from tests.reckoning import (all_patterns, full_ones, is_sound, parts, reckons, rule_reckons, shares_cover, some_text,
                             some_texts, some_things)

# Boxes and sizes with just so many full patterns.
JUST_300 = [(60, (1, 4, 7, 14, 20, 25)), (60, (3, 4, 5, 15, 21, 59)), (60, (2, 4, 6, 11, 24, 55)),
            (59, (1, 2, 9, 13, 32, 58)), (45, (1, 2, 3, 17, 36)), (30, (1, 2, 3, 4, 28, 30))]
JUST_301 = [(60, (1, 7, 9, 10, 13, 17)), (60, (1, 3, 7, 10, 39, 60)), (59, (1, 2, 4, 38, 47, 51)), (60, (1, 3, 7, 9)),
            (45, (1, 2, 5, 9, 31)), (30, (1, 2, 3, 5, 17, 20))]
SIX_AND_FIVE = (10, ((4, 4), (5, 2), (6, 1)))


def number(value):
    """Return a Fraction as a number."""
    return (value.numerator, value.denominator)


def wrong_things(box):
    """Return values that are no things for the box, which is 2 at least."""
    return [*any_values(), ((0, 1),), ((box + 1, 1),), ((1, 0),), ((1, 100),), ((1, 1), (1, 1)), ((2, 1), (1, 1)),
            [(1, 1)], ([1, 1],), ((1, 1), [2, 1]), ((True, 1),), ((1, True),), ((1, 1), (2, True)), ((1, 1, 1),),
            ((1,),), (1, 1), (((1, 1), 1),), (("1", 1),), ((1, "1"),), ((1, None),), ((-1, 1),), ((1, -1),),
            tuple((size, 1) for size in range(1, 8)), ((1, 1), ()), {1: 1}, "11", (((1, 1),),)]


class Right(Checks):

    def check(self, box, things):
        """Check what best tells, by a reckoning that does not share anything with it."""
        value = best(box, things)
        self.assertIs(type(value), tuple)
        word, worth, rows, text = value
        self.assertEqual(word, "best")
        told = Fraction(*worth)
        self.same(worth, number(told))
        for row in rows:
            self.same(row, (tuple(map(int, row[0])), number(Fraction(*row[1]))))
        self.assertTrue(shares_cover(box, things, told, rows), (box, things, value))
        self.assertTrue(rule_reckons(box, things, told, text), (box, things, value))
        self.assertEqual(judged(Rule(text))[0], "sound")
        self.assertIs(shows_best(box, things, value), True)
        return told

    def test_many_things(self):
        chance = Random(201)
        done = 0
        while done < 150:
            box = chance.randint(1, 24)
            things = some_things(chance, box, 5, 99 if done % 2 else 4)
            if full_ones(box, things) <= 300:
                self.check(box, things)
                done += 1

    def test_wide_boxes(self):
        chance = Random(202)
        for box in (50, 59, 60):
            for _ in range(12):
                sizes = sorted(chance.sample(range(box // 6, box + 1), 6))
                self.check(box, tuple((size, chance.choice((1, 99, chance.randint(1, 99)))) for size in sizes))

    def test_all_things_of_small_boxes(self):
        for box in range(1, 6):
            for bits in range(1, 2 ** box):
                for many in (1, 2, 3):
                    sizes = [size for size in range(1, box + 1) if bits >> (size - 1) & 1]
                    things = tuple((size, 1 + (many * size) % 4) for size in sizes)
                    self.check(box, things)

    def test_edges(self):
        self.same(best(2, ((1, 3),))[:3], ("best", (3, 2), (((2,), (3, 2)),)))
        for box, things, told in [(1, ((1, 1),), (1, 1)), (1, ((1, 99),), (99, 1)), (60, ((1, 1),), (1, 60)),
                                  (60, ((1, 99),), (33, 20)), (60, ((60, 99),), (99, 1)), (60, ((31, 99),), (99, 1)),
                                  (60, ((30, 99),), (99, 2)), (60, ((30, 1), (31, 1)), (3, 2)),
                                  (60, ((29, 1), (31, 1)), (1, 1)), (60, ((1, 99), (60, 99)), (99 * 61, 60)),
                                  (60, tuple((size, 99) for size in range(55, 61)), (594, 1)),
                                  (60, tuple((size, 1) for size in range(10, 16)), None),
                                  (30, ((6, 4), (10, 2), (15, 1)), (59, 30)), (10, SIX_AND_FIVE[1], (7, 2))]:
            self.assertEqual(self.check(box, things), Fraction(*(told or best(box, things)[1])))

    def test_just_300_full_patterns(self):
        chance = Random(203)
        for box, sizes in JUST_300:
            for many in range(4):
                things = tuple((size, (1, 99, 7)[many] if many < 3 else chance.randint(1, 99)) for size in sizes)
                self.check(box, things)
            self.assertEqual(full_ones(box, things), 300)

    def test_more_full_patterns(self):
        for box, sizes in JUST_301:
            things = tuple((size, 1) for size in sizes)
            self.assertEqual(full_ones(box, things), 301)
            self.raises(Many, 300, best, box, things)
            for value in (None, best(2, ((1, 3),)), ("best",)):
                self.raises(Many, 300, shows_best, box, things, value)
        self.raises(Many, 300, best, 60, tuple((size, 99) for size in range(1, 7)))
        self.raises(Many, 300, best, 60, ((1, 1), (2, 1), (3, 1)))
        self.check(60, ((1, 5), (2, 5)))


class Wrong(Checks):

    def test_boxes(self):
        for value in [*any_values(), 61, 62, 999999999, "60", (1,), 10 ** 30]:
            for things in [((1, 1),), None, [], ((70, 1),), tuple((size, 1) for size in range(1, 7))]:
                self.raises(BadBox, value, best, value, things)
                self.raises(BadBox, value, shows_best, value, things, None)

    def test_things(self):
        for box in (2, 60):
            for value in wrong_things(box):
                self.raises(BadThings, value, best, box, value)
                for told in (None, best(2, ((1, 3),))):
                    self.raises(BadThings, value, shows_best, box, value, told)
        self.raises(BadThings, ((1, 1), (2, 1), (3, 1), (61, 1)), best, 60, ((1, 1), (2, 1), (3, 1), (61, 1)))

    def test_nothing_is_changed(self):
        things = [(1, 1)]
        value = ["best", [1, 2], [[[2], [1, 2]]], HALF]
        self.raises(BadThings, things, best, 2, things)
        self.assertIs(shows_best(2, ((1, 1),), value), False)
        self.same([things, value], [[(1, 1)], ["best", [1, 2], [[[2], [1, 2]]], HALF]])


class Shown(Checks):

    def test_right_ones(self):
        box, things = SIX_AND_FIVE
        text = best(box, things)[3]
        for rows in [(((1, 0, 1), (1, 1)), ((2, 0, 0), (3, 2)), ((0, 2, 0), (1, 1))),
                     (((0, 2, 0), (1, 1)), ((1, 0, 1), (1, 1)), ((2, 0, 0), (3, 2))),
                     (((1, 1, 0), (2, 1)), ((1, 0, 1), (1, 1)), ((2, 0, 0), (1, 2))),
                     (((1, 1, 0), (1, 1)), ((0, 2, 0), (1, 2)), ((2, 0, 0), (1, 1)), ((1, 0, 1), (1, 1)))]:
            self.assertIs(shows_best(box, things, ("best", (7, 2), rows, text)), True, rows)
        rows = best(box, things)[2]
        for text in ["box 10\nbound 2\nfrom 4 1\nbeyond 4 1", "box 10\nbound 4\nfrom 4 2\nfrom 6 2",
                     "box 10\nbound 2\nfrom 4 1\nbeyond 6 2", "box 10\nbound 2\nfrom 4 1\nfrom 10 2"]:
            self.assertTrue(rule_reckons(box, things, Fraction(7, 2), text))
            self.assertIs(shows_best(box, things, ("best", (7, 2), rows, text)), True, text)
        self.assertIs(shows_best(2, ((1, 3),), ("best", (3, 2), (((2,), (3, 2)),), HALF)), True)

    def test_wrong_rows(self):
        box, things = SIX_AND_FIVE
        word, worth, rows, text = best(box, things)
        for wrong in [(), rows[:-1], rows[1:], (*rows, rows[0]), (*rows, ((1, 0, 0), (1, 10 ** 12))), list(rows),
                      tuple(list(row) for row in rows), tuple((list(pattern), share) for pattern, share in rows),
                      tuple((pattern, list(share)) for pattern, share in rows), (*rows, ((0, 0, 0), (1, 2))),
                      (((1, 0, 1), (1, 1)), ((2, 0, 0), (1, 1)), ((2, 0, 0), (1, 2)), ((0, 2, 0), (1, 1))),
                      (((1, 0, 1), (1, 1)), ((2, 0, 0), (5, 2))), (((1, 0, 1), (3, 2)), ((2, 0, 0), (1, 1)),
                                                                   ((0, 2, 0), (1, 1))),
                      (((1, 0, 1), (1, 1)), ((3, 0, 0), (3, 2)), ((0, 2, 0), (1, 1))),
                      (((1, 0, 1), (1, 1)), ((2, 0, 0), (3, 2)), ((0, 2, 0), (2, 2))),
                      (((1, 0, 1), (1, 1)), ((2, 0, 0), (3, 2)), ((0, 2, 0), (1, 1)), ((0, 1, 0), (0, 1))),
                      (((True, 0, 1), (1, 1)), ((2, 0, 0), (3, 2)), ((0, 2, 0), (1, 1))),
                      (((1, False, 1), (1, 1)), ((2, 0, 0), (3, 2)), ((0, 2, 0), (1, 1))),
                      (((1, 0, 1), (1, True)), ((2, 0, 0), (3, 2)), ((0, 2, 0), (1, 1))),
                      (((1, 0, 1), 1), ((2, 0, 0), (3, 2)), ((0, 2, 0), (1, 1))),
                      (((1, 0), (1, 1)), ((2, 0, 0), (3, 2)), ((0, 2, 0), (1, 1))),
                      (((1, 0, 1, 0), (1, 1)), ((2, 0, 0), (3, 2)), ((0, 2, 0), (1, 1))),
                      (((1, 0, 1), (1, 1), 1), ((2, 0, 0), (3, 2)), ((0, 2, 0), (1, 1))),
                      (((-1, 0, 1), (1, 1)), ((2, 0, 0), (3, 2)), ((0, 2, 0), (1, 1))),
                      (((1, 0, 1), (1, 1)), ((2, 0, 0), (3, 2)), ((-1, 2, 0), (1, 1))),
                      (((1, 0, 1), (1, 1)), ((2, 0, 0), (3, 2)), ((0, 2, 0), (-1, 1))),
                      (((10 ** 5000, 0, 1), (1, 1)), ((2, 0, 0), (3, 2)), ((0, 2, 0), (1, 1)))]:
            self.assertIs(shows_best(box, things, (word, worth, wrong, text)), False, wrong)
            if isinstance(wrong, tuple) and len(wrong) == 0:
                self.assertIs(shows_best(box, things, (word, (0, 1), wrong, text)), False)

    def test_wrong_worths(self):
        box, things = SIX_AND_FIVE
        word, worth, rows, text = best(box, things)
        for wrong in [*any_values(), (14, 4), (7, 3), (8, 2), (4, 1), (3, 1), [7, 2], (7, 2, 1), 7, (7, True), "7/2",
                      (7 * 10 ** 5000 + 1, 2 * 10 ** 5000)]:
            self.assertIs(shows_best(box, things, (word, wrong, rows, text)), False, wrong)
        for box_of_one, things_of_one in [(60, ((60, 99),)), (1, ((1, 1),)), (60, ((1, 1),))]:
            value = best(box_of_one, things_of_one)
            for at in (0, 1):
                wrong = tuple(True if at == place and part == 1 else part for place, part in enumerate(value[1]))
                told = (word, wrong, *value[2:])
                self.assertIs(shows_best(box_of_one, things_of_one, told), value[1][at] != 1)
        # Rows that cover more come to more, which no rule reckons.
        more = ((rows[0][0], number(Fraction(*rows[0][1]) + Fraction(1, 2))), *rows[1:])
        self.assertIs(shows_best(box, things, (word, (4, 1), more, text)), False)
        greater = "box 10\nbound 7\nfrom 4 4"
        self.assertTrue(Fraction(reckons(greater, [((4, 1), 7)]), 7) == 4 and not is_sound(greater))
        self.assertIs(shows_best(box, things, (word, (4, 1), more, greater)), False)

    def test_wrong_texts(self):
        box, things = SIX_AND_FIVE
        word, worth, rows, text = best(box, things)
        for wrong in [*any_values(), HALF, rounding(9).text, "box 10\nbound 1\nfrom 6 1", "box 10\nbound 2\nfrom 5 1",
                      "box 20\nbound 2\nfrom 4 1", "box 9\nbound 2\nfrom 4 1", "box 10\nbound 2\nfrom 3 1",
                      "box 10\nbound 2\nbeyond 3 1\nfrom 4 1", "box 10\nbound 4\nfrom 4 2\nfrom 6 3", text + "\n",
                      " " + text, text.replace("bound 2", "bound 3"), text.replace("bound 2", "bound 1"), [text],
                      text.replace("bound 2", "bound 2" + "0" * 3000), (text,), Rule(text), "box 10\nbound 2",
                      "box 10\nbound 2\nbeyond 0 1", "box 10\nbound 2\nfrom 4 1\nbeyond 5 2"]:
            self.assertIs(shows_best(box, things, (word, worth, rows, wrong)), False, wrong)

    def test_other_forms(self):
        box, things = SIX_AND_FIVE
        value = best(box, things)
        for wrong in [*any_values(), "best", ("best",), value[:3], (*value, 1), list(value), value[1:], ("Best", *value[1:]),
                      ("wanted", *value[1:]), (("best",), *value[1:]), value[::-1], (value,), {"best": value}]:
            self.assertIs(shows_best(box, things, wrong), False, wrong)
        for wrong in any_values():
            self.assertIs(shows_best(box, things, (wrong, *value[1:])), False)
            self.assertIs(shows_best(box, things, (*value[:2], wrong, value[3])), False)
            self.assertIs(shows_best(box, things, (*value[:2], (wrong,), value[3])), False)
            self.assertIs(shows_best(box, things, (*value[:2], ((wrong, (7, 2)),), value[3])), False)
            self.assertIs(shows_best(box, things, (*value[:2], (((1, 1, 0), wrong),), value[3])), False)

    def test_of_other_things(self):
        box, things = SIX_AND_FIVE
        value = best(box, things)
        self.assertIs(shows_best(box, ((4, 4), (5, 2), (7, 1)), value), False)
        self.assertIs(shows_best(box, ((4, 4), (5, 2)), value), False)
        self.assertIs(shows_best(box, ((4, 5), (5, 2), (6, 1)), value), False)
        self.assertIs(shows_best(11, things, value), False)
        self.assertIs(shows_best(9, things, value), False)

    def test_what_was_told_in_part_otherwise(self):
        chance = Random(211)
        for _ in range(40):
            box = chance.randint(2, 14)
            things = some_things(chance, box, 4, 9)
            word, worth, rows, text = best(box, things)
            over, under = worth
            for wrong in [(over + 1, under), (over * 10 ** 40 + 1, under * 10 ** 40), (over * 2, under * 2)]:
                self.assertIs(shows_best(box, things, (word, wrong, rows, text)), False)
            for at, (pattern, share) in enumerate(rows):
                for other in [number(Fraction(*share) + 1), number(Fraction(*share) / 2), (share[0] * 3, share[1] * 3)]:
                    changed = (*rows[:at], (pattern, other), *rows[at + 1:])
                    self.assertIs(shows_best(box, things, (word, worth, changed, text)), False)
            lines = text.split("\n")
            for at in range(2, len(lines)):
                start, told = lines[at].rsplit(" ", 1)
                changed = "\n".join([*lines[:at], f"{start} {int(told) + 1}", *lines[at + 1:]])
                self.assertFalse(rule_reckons(box, things, Fraction(*worth), changed))
                self.assertIs(shows_best(box, things, (word, worth, rows, changed)), False)


class Guarantees(Checks):

    def test_no_sound_rule_reckons_more(self):
        chance = Random(221)
        done = 0
        while done < 300:
            text = some_text(chance, 14)
            box, bound, _ = parts(text)
            things = some_things(chance, box, 5, 9)
            if not is_sound(text) or full_ones(box, things) > 300:
                continue
            lot = tuple(((size, 1), many) for size, many in things)
            self.assertLessEqual(Fraction(Rule(text).reckoned(lot), bound), Fraction(*best(box, things)[1]))
            done += 1

    def test_rounding_rules_reckon_no_more(self):
        chance = Random(222)
        for steps in (1, 2, 4, 9, 29):
            for _ in range(10):
                sizes = sorted(chance.sample(range((steps + 6) // 6, steps + 2), min(4, steps + 1 - steps // 6)))
                things = tuple((size, chance.randint(1, 99)) for size in sizes)
                lot = tuple(((size, 1), many) for size, many in things)
                rule = rounding(steps)
                told = Fraction(*best(steps + 1, things)[1])
                self.assertLessEqual(Fraction(rule.reckoned(lot), rule.bound), told)

    def test_all_so_many_times_as_great(self):
        chance = Random(223)
        for _ in range(25):
            box = chance.randint(1, 12)
            things = some_things(chance, box, 4, 9)
            word, worth, rows, text = best(box, things)
            for many in (2, 5):
                wide = tuple((many * size, pieces) for size, pieces in things)
                self.same(best(many * box, wide)[1], worth)
                self.assertIs(shows_best(many * box, wide, (word, worth, rows, finer(Rule(text), many).text)), True)
                self.assertIs(shows_best(box, things, (word, worth, rows, Rule(text).times(many).text)), True)

    def test_less_is_sound_and_reckons_less(self):
        chance = Random(224)
        for _ in range(25):
            box = chance.randint(1, 12)
            things = some_things(chance, box, 4, 9)
            word, worth, rows, text = best(box, things)
            rule = Rule(text)
            for at, step in enumerate(rule.steps):
                if step[2] > 0:
                    less = rule.with_worth(at, step[2] - 1)
                    self.assertEqual(judged(less)[0], "sound")
                    self.assertIs(shows_best(box, things, (word, worth, rows, less.text)), False)

    def test_equal_calls_return_equal_results(self):
        for box, things in [SIX_AND_FIVE, (60, tuple((size, 7) for size in JUST_300[0][1]))]:
            self.same(best(box, things), best(things=things, box=box))

    def test_the_reckoning_of_patterns(self):
        self.assertEqual(sorted(all_patterns(5, ((2, 1), (3, 1)))), [(0, 1), (1, 0), (1, 1), (2, 0)])
        self.assertEqual(full_ones(5, ((2, 1), (3, 1))), 2)
        self.assertEqual(len(some_texts(1, 3, 3)), 3)


if __name__ == "__main__":
    unittest.main()
