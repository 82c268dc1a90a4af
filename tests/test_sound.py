"""Section 5: judged, shows_judged, most, plain; and the guarantees (a), (b), (c)."""

import unittest
from fractions import Fraction
from itertools import product
from random import Random

from sizesreckoned.errors import BadSize, Endless, ReckonError
from sizesreckoned.rules import Rule
from sizesreckoned.sound import judged, most, plain, shows_judged
from tests.checking import HALF, THIRDS, Checks, any_values
from tests.reckoning import (crumbs, fills, halves, is_sound, lot_breaks, most_of, parts, shortest, some_size,
                             some_texts, table_holds, text_of, worth)


def many_texts():
    """Return texts of rules that are sound, and of such that are not."""
    return some_texts(11, 250, 5) + some_texts(12, 60, 12) + some_texts(13, 60, 6, crumb=True)


def widest_text(bound):
    """Return the text of a rule with all steps that the widest box has."""
    return text_of(60, bound, [0] + [place // 2 for place in range(2, 121)])


class Judged(Checks):

    def check(self, text):
        """Check what is told of a rule, and return the first word."""
        rule = Rule(text)
        value = judged(rule)
        self.assertIs(type(value), tuple)
        word, shown = value
        if is_sound(text):
            self.assertEqual(word, "sound", text)
            self.assertTrue(table_holds(text, shown), text)
        else:
            self.assertEqual(word, "broken", text)
            self.assertTrue(lot_breaks(text, shown), text)
            rule.reckoned(shown)
        self.assertIs(shows_judged(rule, value), True)
        return word

    def test_many_rules(self):
        words = [self.check(text) for text in many_texts()]
        self.assertGreater(words.count("sound"), 80)
        self.assertGreater(words.count("broken"), 80)

    def test_all_rules_of_box_1(self):
        for bound in (1, 2, 3):
            for worths in product(range(5), repeat=2):
                self.check(text_of(1, bound, worths))

    def test_rules_without_steps(self):
        for box in (1, 2, 60):
            self.same(judged(Rule(f"box {box}\nbound 1")), ("sound", (0,) * (2 * box + 1)))

    def test_beyond_0(self):
        self.check("box 1\nbound 1\nbeyond 0 0")
        for bound in (1, 2, 3, 999999999):
            for step_worth in (1, 2, 3, 999999999):
                for box in (1, 60):
                    self.assertEqual(self.check(f"box {box}\nbound {bound}\nbeyond 0 {step_worth}\nfrom 1 0"), "broken")

    def test_just_at_the_bound(self):
        for text, told in [("box 1\nbound 1\nfrom 1 1", "sound"), ("box 1\nbound 1\nfrom 1 2", "broken"),
                           ("box 1\nbound 999999999\nfrom 1 999999999", "sound"),
                           ("box 1\nbound 999999998\nfrom 1 999999999", "broken"),
                           ("box 60\nbound 60\nfrom 1 1", "sound"), ("box 60\nbound 59\nfrom 1 1", "broken"),
                           ("box 60\nbound 59\nbeyond 1 1", "sound"), ("box 60\nbound 58\nbeyond 1 1", "broken"),
                           ("box 3\nbound 2\nbeyond 1 1", "sound"), ("box 3\nbound 1\nbeyond 1 1", "broken"),
                           ("box 3\nbound 1\nfrom 2 1", "sound"), ("box 2\nbound 1\nbeyond 1 1", "sound")]:
            self.assertEqual(self.check(text), told, text)

    def test_lots_that_fill_the_box_but_for_a_little(self):
        # Both kinds of things are beyond a step, and only a little is left for them.
        text = "box 7\nbound 9\nbeyond 1 2\nbeyond 2 6"
        self.assertEqual(self.check(text), "broken")
        shown = judged(Rule(text))[1]
        self.assertTrue(6 < fills(shown) <= 7)

    def test_the_widest_box(self):
        self.assertEqual(judged(Rule(widest_text(60)))[0], "sound")
        for text in (widest_text(60), widest_text(59), widest_text(1)):
            self.check(text)

    def test_a_lower_worth_ahead_of_a_greater_one(self):
        for text in ("box 4\nbound 4\nfrom 1 3\nbeyond 1 0\nfrom 4 1", "box 4\nbound 12\nfrom 1 3\nbeyond 1 0\nfrom 4 1"):
            self.check(text)


class Shown(Checks):

    def test_tables_by_chance(self):
        chance = Random(21)
        told = {True: 0, False: 0}
        for text in many_texts():
            rule = Rule(text)
            box, bound, _ = parts(text)
            word, shown = judged(rule)
            base = shown if word == "sound" else tuple(range(2 * box + 1))
            for _ in range(12):
                table = list(base)
                for _ in range(chance.randint(0, 2)):
                    table[chance.randrange(len(table))] += chance.choice((-1, 1, 1, bound))
                if chance.random() < 0.3:
                    table = sorted(table)
                value = shows_judged(rule, ("sound", tuple(table)))
                holds = crumbs(text) == 0 and table_holds(text, table)
                self.assertIs(value, holds, (text, table))
                told[value] += 1
        self.assertGreater(min(told.values()), 300)

    def test_tables(self):
        half = Rule(HALF)
        for table, holds in [((0, 0, 1, 2, 2), True), ((0, 0, 1, 1, 2), False), ((0, 0, 0, 2, 2), False),
                             ((0, 0, 1, 2, 3), False), ((1, 1, 1, 2, 2), False), ((0, 1, 1, 2, 2), False),
                             ((0, 0, 2, 2, 2), False), ((0, 0, 1, 2), False), ((0, 0, 1, 2, 2, 2), False),
                             ((0, 0, 1, 2, True), False), ((False, 0, 1, 2, 2), False), ((0, 0, True, 2, 2), False),
                             ((-1, 0, 1, 2, 2), False), ([0, 0, 1, 2, 2], False), ((0, 0, "1", 2, 2), False),
                             ((0, 0, (1,), 2, 2), False), ((0, 0, 1, 3, 2), False), ((), False), (None, False)]:
            self.assertIs(shows_judged(half, ("sound", table)), holds, table)
            self.assertIs(shows_judged(half, ["sound", table]), False)
            self.assertIs(shows_judged(half, ("broken", table)), False)
            self.assertIs(shows_judged(half, ("sound", table, 1)), False)
        empty = Rule("box 1\nbound 5")
        for table, holds in [((0, 0, 0), True), ((5, 5, 5), True), ((0, 3, 4), True), ((0, 0, 6), False),
                             ((1, 0, 5), False), ((0, 5, 4), False), ((-1, 0, 0), False)]:
            self.assertIs(shows_judged(empty, ("sound", table)), holds, table)

    def test_no_table_holds_for_crumbs(self):
        rule = Rule("box 1\nbound 999999999\nbeyond 0 1")
        for table in [(0, 0, 0), (0, 1, 1), (0, 1, 2), (0, 999999998, 999999999), (0, 0, 999999999)]:
            self.assertIs(shows_judged(rule, ("sound", table)), False)
        for lot, breaks in [((((1, 10 ** 9), 10 ** 9),), True), ((((1, 999999999), 999999999),), False),
                            ((((1, 10 ** 9), 10 ** 9 + 1),), False), ((((1, 10 ** 9 + 5), 10 ** 9 + 1),), True),
                            ((((1, 10 ** 5000), 10 ** 5000),), True)]:
            self.assertIs(shows_judged(rule, ("broken", lot)), breaks)

    def test_lots(self):
        thirds = Rule(THIRDS)
        for lot, breaks in [((((1, 1), 3),), True), ((((1, 1), 2),), False), ((((1, 1), 4),), False), ((), False),
                            ((((1, 1), 1), ((5, 4), 1)), False), ((((1, 1), 2), ((1, 2), 2)), False),
                            ((((1, 1), 2), ((101, 100), 1)), False), ((((2, 2), 3),), False), ([((1, 1), 3)], False),
                            (([(1, 1), 3],), False), ((((1, 1), 1), ((1, 1), 2)), False), ((((1, True), 3),), False),
                            ((((4, 1), 1),), False), ((((1, 1), "3"),), False), (((1, 1), 3), False), (3, False)]:
            self.assertIs(shows_judged(thirds, ("broken", lot)), breaks, lot)
            self.assertIs(shows_judged(thirds, ["broken", lot]), False)
            self.assertIs(shows_judged(thirds, ("sound", lot)), False)
        beyond = Rule("box 3\nbound 3\nbeyond 1 2")
        for lot, breaks in [((((1000, 999), 2),), True), ((((3, 2), 2),), True), ((((1501, 1000), 2),), False),
                            ((((1001, 1000), 1), ((1999, 1000), 1)), True), ((((1, 1), 3),), False),
                            ((((1001, 1000), 1), ((1999, 1000), 1), ((1, 999), 1)), False)]:
            self.assertIs(shows_judged(beyond, ("broken", lot)), breaks, lot)

    def test_lots_by_chance(self):
        chance = Random(22)
        found = {True: 0, False: 0}
        for text in many_texts():
            rule = Rule(text)
            for _ in range(6):
                sizes = {some_size(chance, rule.box) for _ in range(chance.randint(1, 3))}
                lot = tuple((size, chance.randint(1, 3)) for size in sorted(sizes))
                value = shows_judged(rule, ("broken", lot))
                self.assertIs(value, lot_breaks(text, lot), (text, lot))
                found[value] += 1
        self.assertGreater(min(found.values()), 10)

    def test_values_of_any_kind(self):
        for rule in (Rule(HALF), Rule(THIRDS), Rule("box 1\nbound 1\nbeyond 0 1")):
            for value in any_values() + ["sound", "broken", ("sound",), ("broken",), ("greatest",)]:
                self.assertIs(shows_judged(rule, value), False)
                self.assertIs(shows_judged(rule, ("sound", value)), False)
                self.assertIs(shows_judged(rule, ("broken", value)), False)
                self.assertIs(shows_judged(rule, (value, judged(rule)[1])), value == judged(rule)[0])
                self.assertIs(shows_judged(rule, ("broken", (value,))), False)
                self.assertIs(shows_judged(rule, ("broken", ((value, 3),))), False)
                self.assertIs(shows_judged(rule, ("broken", (((1, 1), value),))), False)


class Most(Checks):

    def test_many_rules(self):
        chance = Random(31)
        for text in some_texts(14, 200, 5) + some_texts(15, 30, 10):
            rule = Rule(text)
            for _ in range(5):
                size = some_size(chance, rule.box)
                self.same(most(rule, size), most_of(text, Fraction(*size)))

    def test_at_the_edges(self):
        rule = Rule(HALF)
        tiny = 999999999
        for size, expected in [((1, tiny), 0), ((tiny - 1, tiny), 0), ((1, 1), 1), ((tiny + 1, tiny), 2),
                               ((2 * tiny - 1, tiny), 2), ((2, 1), 2), ((10 ** 5000 + 1, 10 ** 5000), 2)]:
            self.same(most(rule, size), expected)
        self.same(most(Rule(widest_text(1)), (60, 1)), 60)
        self.same(most(Rule("box 60\nbound 1\nfrom 1 999999999"), (60, 1)), 60 * 999999999)

    def test_a_size_that_is_reckoned_less_than_one_within_it(self):
        rule = Rule("box 2\nbound 1\nfrom 1 5\nbeyond 1 0")
        self.same([most(rule, size) for size in [(1, 2), (1, 1), (3, 2), (2, 1)]], [0, 5, 5, 10])

    def test_endless(self):
        rule = Rule("box 2\nbound 2\nbeyond 0 1\nfrom 1 0")
        for size in [(1, 1), (2, 1), (1, 999999999)]:
            self.raises(Endless, None, most, rule, size)
        self.same(most(rule.with_worth(0, 0), (2, 1)), 0)

    def test_no_sizes(self):
        for rule in (Rule(HALF), Rule("box 2\nbound 2\nbeyond 0 1")):
            for value in any_values() + [(3, 1), (2000000001, 1000000000), 1, [1, 1]]:
                self.raises(BadSize, value, most, rule, value)


class Plain(Checks):

    def test_many_rules(self):
        chance = Random(41)
        for text in many_texts():
            rule = plain(Rule(text))
            box, bound, steps = parts(text)
            worths = [worth(steps, size) for size in halves(box)]
            self.same(rule.text, shortest(box, bound, worths))
            for _ in range(4):
                size = some_size(chance, box)
                self.same(rule.worth(size), worth(steps, Fraction(*size)))
            self.assertEqual(plain(rule), rule)

    def test_no_rule_has_fewer_steps(self):
        fewest = {}
        texts = []
        places = ["beyond 0", "from 1", "beyond 1", "from 2"]
        for worths in product((None, 0, 1, 2), repeat=4):
            lines = [f"{place} {step_worth}" for place, step_worth in zip(places, worths) if step_worth is not None]
            text = "\n".join(["box 2", "bound 3", *lines])
            told = tuple(worth(parts(text)[2], size) for size in halves(2))
            fewest[told] = min(fewest.get(told, 9), len(lines))
            texts.append((text, told))
        for text, told in texts:
            rule = plain(Rule(text))
            self.assertEqual(len(rule), fewest[told])
            self.assertEqual(tuple(worth(rule.steps, size) for size in halves(2)), told)

    def test_edges(self):
        for text, expected in [("box 1\nbound 1", "box 1\nbound 1"), ("box 1\nbound 1\nfrom 1 0", "box 1\nbound 1"),
                               ("box 1\nbound 1\nbeyond 0 0\nfrom 1 1", "box 1\nbound 1\nfrom 1 1"),
                               ("box 1\nbound 7\nbeyond 0 3\nfrom 1 0", "box 1\nbound 7\nbeyond 0 3\nfrom 1 0"),
                               ("box 2\nbound 1\nfrom 1 1\nbeyond 1 1\nfrom 2 1", "box 2\nbound 1\nfrom 1 1")]:
            self.same(plain(Rule(text)).text, expected)


class Guarantees(Checks):

    def test_all_lots(self):
        chance = Random(51)
        for text in many_texts():
            rule = Rule(text)
            if judged(rule)[0] != "sound":
                continue
            lots = [self.lot_in_box(chance, rule.box) for _ in range(8)]
            for lot in lots:
                self.assertLessEqual(rule.reckoned(lot), rule.bound)
            together = {}
            for lot in lots:
                for size, many in lot:
                    together[size] = together.get(size, 0) + many
            self.assertLessEqual(rule.boxes(tuple(together.items())), len(lots))

    def lot_in_box(self, chance, box):
        """Return a lot by chance that fits the box."""
        lot = {}
        for _ in range(8):
            size = some_size(chance, box)
            trial = dict(lot)
            trial[size] = trial.get(size, 0) + 1
            if fills(trial.items()) <= box:
                lot = trial
        return tuple(lot.items())

    def test_times(self):
        chance = Random(52)
        for text in many_texts()[::3]:
            rule = Rule(text)
            lot = tuple((size, 3) for size in sorted({some_size(chance, rule.box) for _ in range(5)}))
            for many in (1, 2, 99):
                self.assertEqual(judged(rule.times(many))[0], judged(rule)[0])
                self.assertEqual(rule.times(many).boxes(lot), rule.boxes(lot))

    def test_wider(self):
        for text in some_texts(16, 60, 5, crumb=False) + some_texts(17, 20, 5, crumb=True):
            rule = Rule(text)
            box, bound, steps = parts(text)
            for many in (2, 3, 12):
                lines = [f"{word} {many * start} {step_worth}" for word, start, step_worth in steps]
                wider = Rule("\n".join([f"box {many * box}", f"bound {bound}", *lines]))
                self.assertEqual(judged(wider)[0], judged(rule)[0])
                for size in halves(box):
                    grown = many * size
                    self.assertEqual(wider.boxes((((grown.numerator, grown.denominator), 7),)),
                                     rule.boxes((((size.numerator, size.denominator), 7),)))

    def test_less(self):
        chance = Random(53)
        for text in many_texts():
            rule = Rule(text)
            if judged(rule)[0] != "sound":
                continue
            for number, step in enumerate(rule.steps):
                less = rule.with_worth(number, chance.randint(0, step[2]))
                self.assertEqual(judged(less)[0], "sound")
            greater = Rule(text.replace(f"bound {rule.bound}", f"bound {rule.bound + chance.randint(1, 9)}", 1))
            self.assertEqual(judged(greater)[0], "sound")

    def test_a_call_that_raises_changes_nothing(self):
        rule = Rule(HALF)
        for call in (rule.worth, rule.reckoned, rule.boxes, rule.times, lambda value: most(rule, value)):
            with self.assertRaises(ReckonError):
                call("wrong")
        self.same([rule.text, rule.box, rule.bound, rule.steps], [HALF, 2, 2, (("from", 1, 1), ("beyond", 1, 2))])


if __name__ == "__main__":
    unittest.main()
