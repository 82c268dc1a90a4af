"""Section 9: wanted, shows_wanted."""

import unittest
from fractions import Fraction
from random import Random

from sizesreckoned.boxes import shows_wanted, wanted
from sizesreckoned.errors import BadBox, BadThings, Many
from sizesreckoned.making import rounding
from sizesreckoned.mixed import best
from tests.checking import Checks, any_values
from tests.reckoning import fewest_boxes, full_ones, some_things
from tests.test_mixed import JUST_300, JUST_301, SIX_AND_FIVE, wrong_things

# Two boxes would be just full but for a sixtieth, and no packing leaves so little.
ONE_MORE = (30, ((6, 4), (10, 2), (15, 1)))


def few_things(chance, box, most_things):
    """Return things for the box by chance, no more than so many."""
    things = some_things(chance, box, 6, 5)
    while sum(many for _, many in things) > most_things:
        things = some_things(chance, box, 6, 5)
    return things


class Right(Checks):

    def check(self, box, things):
        """Check what wanted tells, by going through all ways."""
        value = wanted(box, things)
        self.assertIs(type(value), tuple)
        number, rows, gap = value
        self.same(number, fewest_boxes(box, things))
        self.assertIs(type(rows), tuple)
        self.assertEqual(len(rows), number)
        for row in rows:
            self.same(row, tuple(map(int, row)))
            self.assertGreaterEqual(min(row), 0)
            self.assertTrue(0 < sum(many * size for many, (size, _) in zip(row, things)) <= box)
        self.same([sum(row[at] for row in rows) for at in range(len(things))], [many for _, many in things])
        over, under = best(box, things)[1]
        self.same(gap, number - -(-over // under))
        self.assertGreaterEqual(gap, 0)
        self.assertIs(shows_wanted(box, things, value), True)
        return value

    def test_many_things(self):
        chance = Random(301)
        done = 0
        while done < 250:
            box = chance.randint(1, 24)
            things = few_things(chance, box, 8)
            if full_ones(box, things) <= 300:
                self.check(box, things)
                done += 1

    def test_twelve_things(self):
        chance = Random(302)
        for box in (20, 40, 60):
            for _ in range(12):
                sizes = sorted(chance.sample(range(box // 5, box + 1), 6))
                self.check(box, tuple((size, 2) for size in sizes))
        self.check(60, tuple((size, 2) for size in range(10, 16)))
        self.check(60, ((13, 3), (17, 5), (19, 4)))
        self.check(60, ((5, 12),))

    def test_all_things_of_small_boxes(self):
        for box in range(1, 6):
            for bits in range(1, 2 ** box):
                sizes = [size for size in range(1, box + 1) if bits >> (size - 1) & 1]
                for many in (1, 2):
                    self.check(box, tuple((size, 1 + (many * size) % 3 % 2) for size in sizes))

    def test_more_than_all_rules_show(self):
        for box, things, number in [(*ONE_MORE, 3), (60, ((12, 4), (20, 2), (30, 1)), 3),
                                    (60, ((12, 4), (20, 2), (31, 1)), 3)]:
            value = self.check(box, things)
            self.same([value[0], value[2]], [number, 1 if things[-1][0] * 2 == box else 0])
        self.same(best(*ONE_MORE)[1], (59, 30))
        found = 0
        chance = Random(303)
        for _ in range(60):
            # A little less of the same: some still want one box more than all rules show.
            box, base = 60, (12, 20, 30)
            things = tuple(sorted((size - chance.choice((0, 0, 0, 1)), many) for size, many in zip(base, (4, 2, 1))))
            found += self.check(box, things)[2]
        self.assertGreater(found, 0)

    def test_edges(self):
        for box, things, number, gap in [(1, ((1, 1),), 1, 0), (1, ((1, 12),), 12, 0), (60, ((1, 12),), 1, 0),
                                         (60, ((60, 12),), 12, 0), (60, ((31, 12),), 12, 0), (60, ((30, 11),), 6, 0),
                                         (2, ((1, 3),), 2, 0), (10, SIX_AND_FIVE[1], 4, 0), (60, ((5, 12),), 1, 0),
                                         (59, ((5, 12),), 2, 0)]:
            value = self.check(box, things)
            self.same([value[0], value[2]], [number, gap])

    def test_just_300_full_patterns(self):
        for box, sizes in JUST_300:
            many = 12 // len(sizes)
            self.check(box, tuple((size, many) for size in sizes))

    def test_rules_tell_no_more(self):
        chance = Random(304)
        for steps in (1, 3, 7, 19):
            rule = rounding(steps)
            for _ in range(15):
                things = few_things(chance, steps + 1, 9)
                if full_ones(steps + 1, things) > 300:
                    continue
                lot = tuple(((size, 1), many) for size, many in things)
                self.assertLessEqual(rule.boxes(lot), wanted(steps + 1, things)[0])


class Wrong(Checks):

    def test_boxes(self):
        for value in [*any_values(), 61, 999999999, "60", 10 ** 30]:
            for things in [((1, 1),), None, ((1, 13),)]:
                self.raises(BadBox, value, wanted, value, things)
                self.raises(BadBox, value, shows_wanted, value, things, None)

    def test_things(self):
        for value in [*wrong_things(60), ((1, 13), (1, 1)), ((1, 13), (61, 1))]:
            self.raises(BadThings, value, wanted, 60, value)
            self.raises(BadThings, value, shows_wanted, 60, value, (1, (), 0))

    def test_more_than_twelve_things(self):
        many = tuple((size, 2) for size in range(1, 7))
        for things in [((60, 13),), ((1, 99),), ((30, 6), (31, 7)), ((1, 3), *many[1:])]:
            self.raises(Many, 12, wanted, 60, things)
            self.raises(Many, 12, shows_wanted, 60, things, None)
        # Just twelve, but with more full patterns; then both of it.
        self.raises(Many, 300, wanted, 60, many)
        self.raises(Many, 300, shows_wanted, 60, many, (1, (), 0))
        for box, sizes in JUST_301:
            self.raises(Many, 300, wanted, box, tuple((size, 2) for size in sizes))
            self.raises(Many, 300, shows_wanted, box, tuple((size, 1) for size in sizes), None)
            self.raises(Many, 12, wanted, box, tuple((size, 4) for size in sizes))


class Shown(Checks):

    def test_right_ones(self):
        box, things = SIX_AND_FIVE
        for rows in [((2, 0, 0), (1, 0, 1), (0, 2, 0), (1, 0, 0)), ((1, 0, 0), (0, 2, 0), (2, 0, 0), (1, 0, 1)),
                     ((1, 1, 0), (1, 1, 0), (2, 0, 0), (0, 0, 1)), ((2, 0, 0), (2, 0, 0), (0, 2, 0), (0, 0, 1))]:
            self.assertIs(shows_wanted(box, things, (4, rows, 0)), True, rows)
        box, things = ONE_MORE
        for rows in [((4, 0, 0), (0, 2, 0), (0, 0, 1)), ((2, 0, 1), (1, 2, 0), (1, 0, 0)),
                     ((1, 0, 1), (0, 2, 0), (3, 0, 0))]:
            self.assertIs(shows_wanted(box, things, (3, rows, 1)), True, rows)

    def test_wrong_rows(self):
        box, things = SIX_AND_FIVE
        right = ((2, 0, 0), (1, 0, 1), (0, 2, 0), (1, 0, 0))
        for wrong in [(), right[1:], right[:-1], (*right, (1, 0, 0)), (*right[:-1], (2, 0, 0)), list(right),
                      tuple(map(list, right)), (*right, (0, 0, 0)), ((2, 0, 0), (2, 0, 1), (0, 2, 0), (0, 0, 0)),
                      ((3, 0, 0), (0, 0, 1), (0, 2, 0), (1, 0, 0)), ((2, 0, 0), (1, 0, 1), (0, 1, 0), (1, 1, 0), ()),
                      ((2, 0, 0), (True, 0, 1), (0, 2, 0), (1, 0, 0)), ((2, 0, 0), (1, False, 1), (0, 2, 0), (1, 0, 0)),
                      ((2, 0, 0), (1, 0, 1), (0, 2, 0), (1, 0)), ((2, 0, 0), (1, 0, 1), (0, 2, 0), (1, 0, 0, 0)),
                      ((2, 0, 0), (1, 0, 1), (-1, 2, 0), (2, 0, 0)), ((2, 0, 0), (1, 0, 1), (0, 2, 0), "100"),
                      ((2, 0, 0), (1, 0, 1), (0, 2, 0), (10 ** 5000, 0, 0)), (right,), right[0],
                      ((1, 0, 0), (1, 0, 0), (1, 0, 0), (1, 2, 1)), ((2, 0, 0), (1, 0, 1), (0, 1, 0), (1, 0, 0))]:
            self.assertIs(shows_wanted(box, things, (4, wrong, 0)), False, wrong)
        five = ((2, 0, 0), (1, 0, 1), (0, 1, 0), (0, 1, 0), (1, 0, 0))
        for number in (4, 5):
            for gap in (0, 1):
                self.assertIs(shows_wanted(box, things, (number, five, gap)), False)

    def test_wrong_numbers_and_gaps(self):
        for box, things in (SIX_AND_FIVE, ONE_MORE, (2, ((1, 2),))):
            number, rows, gap = wanted(box, things)
            for wrong in [*any_values(), number - 1, number + 1, str(number), (number,), 10 ** 5000, number * 10 ** 9]:
                self.assertIs(shows_wanted(box, things, (wrong, rows, gap)), False)
            for wrong in [*any_values(), gap - 1, gap + 1, 1 - gap, True, False, str(gap), (gap,), 10 ** 5000]:
                told = type(wrong) is int and wrong == gap
                self.assertIs(shows_wanted(box, things, (number, rows, wrong)), told)
        self.assertIs(shows_wanted(2, ((1, 2),), (True, ((2,),), 0)), False)
        self.assertIs(shows_wanted(2, ((1, 2),), (1, ((2,),), 0)), True)

    def test_other_forms(self):
        box, things = SIX_AND_FIVE
        value = wanted(box, things)
        for wrong in [*any_values(), list(value), value[:2], (*value, 0), ("wanted", *value), value[::-1], (value,),
                      (value[0], value[2], value[1])]:
            self.assertIs(shows_wanted(box, things, wrong), False, wrong)
        for wrong in any_values():
            self.assertIs(shows_wanted(box, things, (4, wrong, 0)), False)
            self.assertIs(shows_wanted(box, things, (4, (wrong, *value[1][1:]), 0)), False)
            self.assertIs(shows_wanted(box, things, (4, ((wrong, 0, 0), *value[1][1:]), 0)), False)

    def test_of_other_things(self):
        value = wanted(*SIX_AND_FIVE)
        self.assertIs(shows_wanted(10, ((4, 4), (5, 2)), value), False)
        self.assertIs(shows_wanted(10, ((4, 4), (5, 3), (6, 1)), value), False)
        self.assertIs(shows_wanted(10, ((4, 4), (5, 2), (7, 1)), (4, ((2, 0, 0), (1, 0, 1), (0, 2, 0), (1, 0, 0)), 0)),
                      False)
        self.assertIs(shows_wanted(20, SIX_AND_FIVE[1], value), False)

    def test_nothing_is_changed(self):
        rows = [[2, 0, 0], [1, 0, 1], [0, 2, 0], [1, 0, 0]]
        self.assertIs(shows_wanted(*SIX_AND_FIVE, [4, rows, 0]), False)
        self.same(rows, [[2, 0, 0], [1, 0, 1], [0, 2, 0], [1, 0, 0]])
        self.same(wanted(things=ONE_MORE[1], box=30), wanted(30, ONE_MORE[1]))

    def test_the_reckoning_of_all_ways(self):
        self.assertEqual([fewest_boxes(10, ((5, 3),)), fewest_boxes(10, ((4, 4), (6, 1))), fewest_boxes(3, ((1, 3),))],
                         [2, 3, 1])
        self.assertLess(Fraction(*best(*ONE_MORE)[1]), 2)


if __name__ == "__main__":
    unittest.main()
