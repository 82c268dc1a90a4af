"""Section 7: rounding, behind, finer; and the guarantees (b), (c), (d)."""

import unittest
from math import gcd
from random import Random

from sizesreckoned.beside import within
from sizesreckoned.errors import BadMany, Great, OtherBox
from sizesreckoned.greatest import best_rules, greatest
from sizesreckoned.making import behind, finer, rounding
from sizesreckoned.rules import Rule
from sizesreckoned.sound import judged, plain
from tests.checking import HALF, THIRDS, Checks, any_values
from tests.reckoning import (halves, is_greatest, is_sound, parts, shortest, some_size, some_text, some_texts, tells,
                             worth)


def some_lot(chance, box):
    """Return a lot by chance of sizes no greater than the box."""
    sizes = sorted({some_size(chance, box) for _ in range(chance.randint(1, 6))})
    return tuple((size, chance.choice((1, 2, 3, 50))) for size in sizes)


class Rounding(Checks):

    def test_texts(self):
        for steps in range(1, 41):
            lines = [f"box {steps + 1}", f"bound {steps * (steps + 1)}"]
            for number in range(1, steps + 1):
                lines += [f"from {number} {number * steps}", f"beyond {number} {number * (steps + 1)}"]
            self.same(rounding(steps).text, "\n".join(lines))
            self.assertIs(type(rounding(steps)), Rule)
        self.same(rounding(1).text, HALF)
        self.same(rounding(40).text.split("\n")[-1], "beyond 40 1640")

    def test_all_are_sound_and_greatest(self):
        for steps in range(1, 41):
            self.assertEqual(judged(rounding(steps))[0], "sound")
            self.same(greatest(rounding(steps)), ("greatest",))
        for steps in range(1, 8):
            self.assertTrue(is_sound(rounding(steps).text) and is_greatest(rounding(steps).text))

    def test_what_sizes_are_rounded_to(self):
        for steps in (2, 5, 40):
            rule = rounding(steps)
            for size in halves(steps + 1):
                # Of the share size / (steps + 1): whole ones as they are, others rounded as the steps go.
                whole = size.denominator == 1
                told = size * steps if whole else (size.numerator // size.denominator) * (steps + 1)
                self.same(rule.worth((size.numerator, size.denominator)), int(told))

    def test_wrong_steps(self):
        for value in [*any_values(), 41, 42, 999999999, "1", (1,), [1], 10 ** 30]:
            self.raises(BadMany, value, rounding, value)


class Behind(Checks):

    def expected(self, one, other):
        """Return the text that is told, written out from the document."""
        box, _, steps = parts(one)
        whole, bound, others = parts(other)
        worths = []
        for size in halves(box):
            told = worth(steps, size)
            worths.append(0 if told == 0 else worth(others, min(told, whole)))
        return shortest(box, bound, worths)

    def pairs(self, seed, many, crumb=False):
        """Return so many pairs of texts by chance of which the second one's box is the bound of the first one."""
        chance = Random(seed)
        found = []
        while len(found) < many:
            one = some_text(chance, 5, crumb)
            if parts(one)[1] <= 60:
                found.append((one, some_text(chance, 60, False, parts(one)[1])))
        return found

    def test_many_rules(self):
        for one, other in self.pairs(101, 150) + self.pairs(102, 30, crumb=True):
            rule = behind(Rule(one), Rule(other))
            self.same(rule.text, self.expected(one, other))
            self.assertEqual(plain(rule), rule)

    def test_sound_rules_behind_sound_ones_are_sound(self):
        pairs = [(one, other) for one, other in self.pairs(103, 250) if is_sound(one) and is_sound(other)]
        for one, other in pairs:
            self.assertEqual(judged(behind(Rule(one), Rule(other)))[0], "sound", (one, other))
        self.assertGreater(len(pairs), 40)
        for texts, others in ((best_rules(4, 4), best_rules(4, 6)), (best_rules(3, 2), best_rules(2, 4))):
            for one in texts:
                for other in others:
                    self.assertEqual(judged(behind(Rule(one), Rule(other)))[0], "sound")

    def test_worth_nothing(self):
        other = Rule("box 2\nbound 9\nbeyond 0 1\nfrom 1 2\nfrom 2 3")
        self.same(behind(Rule("box 3\nbound 2\nfrom 1 0\nfrom 2 1"), other).text, "box 3\nbound 9\nfrom 2 2")
        self.same(behind(Rule("box 3\nbound 2\nfrom 1 1\nbeyond 1 0\nfrom 3 2"), other).text,
                  "box 3\nbound 9\nfrom 1 2\nbeyond 1 0\nfrom 3 3")
        self.same(behind(Rule("box 3\nbound 2\nbeyond 0 1"), other).text, "box 3\nbound 9\nbeyond 0 2")
        self.same(behind(Rule("box 3\nbound 2"), other).text, "box 3\nbound 9")

    def test_worths_above_the_box(self):
        other = Rule("box 2\nbound 9\nfrom 1 4\nbeyond 1 5\nfrom 2 7")
        for more in (2, 3, 60, 999999999):
            one = Rule(f"box 60\nbound 2\nfrom 30 1\nfrom 60 {more}")
            self.same(behind(one, other).text, "box 60\nbound 9\nfrom 30 4\nfrom 60 7")
        self.same(behind(Rule("box 1\nbound 2\nfrom 1 9"), Rule("box 2\nbound 1")).text, "box 1\nbound 1")

    def test_as_plain_tells_it(self):
        one = Rule("box 3\nbound 2\nbeyond 0 0\nfrom 1 1\nbeyond 1 2\nfrom 2 1\nbeyond 2 1\nfrom 3 2")
        other = Rule("box 2\nbound 5\nfrom 1 3\nfrom 2 3")
        self.same(behind(one, other).text, "box 3\nbound 5\nfrom 1 3")

    def test_other_boxes(self):
        half = Rule(HALF)
        for value in [*[value for value in any_values() if value != half], HALF, "box 2", 2, Rule("box 1\nbound 2"),
                      Rule("box 60\nbound 2"), Rule(THIRDS), [half], (half,), {"a": half}]:
            self.raises(OtherBox, value, behind, half, value)
        self.raises(OtherBox, half, behind, Rule("box 2\nbound 1"), half)
        self.raises(OtherBox, half, behind, Rule("box 2\nbound 999999999"), half)
        self.raises(OtherBox, half, behind, Rule("box 2\nbound 61"), half)
        wide = Rule("box 60\nbound 1\nfrom 60 1")
        self.same(behind(Rule("box 1\nbound 60\nfrom 1 60"), wide).text, "box 1\nbound 1\nfrom 1 1")


class Finer(Checks):

    def test_texts(self):
        for text in [HALF, THIRDS, "box 1\nbound 1", "box 2\nbound 1\nbeyond 0 0\nfrom 1 1\nbeyond 1 1\nfrom 2 1",
                     *some_texts(111, 40, 6, crumb=True)]:
            box, bound, steps = parts(text)
            for many in (1, 2, 3, 10):
                lines = [f"box {many * box}", f"bound {bound}"]
                lines += [f"{word} {many * start} {told}" for word, start, told in steps]
                self.same(finer(Rule(text), many).text, "\n".join(lines))
        self.assertEqual(finer(Rule(HALF), 1), Rule(HALF))

    def test_boxes_of_60_and_above(self):
        for box in range(1, 61):
            rule = Rule(f"box {box}\nbound 7\nfrom {box} 7")
            most = 60 // box
            self.same(finer(rule, most).text, f"box {most * box}\nbound 7\nfrom {most * box} 7")
            if most < 60:
                self.raises(Great, 60, finer, rule, most + 1)
            for many in (60, 61):
                if box > 1:
                    self.raises(Great if many == 60 else BadMany, 60 if many == 60 else many, finer, rule, many)
        self.same(finer(Rule("box 1\nbound 1\nfrom 1 1"), 60).text, "box 60\nbound 1\nfrom 60 1")

    def test_wrong_many(self):
        for rule in (Rule(HALF), Rule("box 60\nbound 1")):
            for value in [*any_values(), 61, 62, 999999999, "1", (1,), 10 ** 30]:
                self.raises(BadMany, value, finer, rule, value)


class Guarantees(Checks):

    def test_sizes_so_many_times_as_great(self):
        chance = Random(121)
        for text in some_texts(122, 80, 6) + some_texts(123, 20, 6, crumb=True):
            rule = Rule(text)
            for many in (2, 3, 10):
                wide = finer(rule, many)
                self.assertEqual(judged(wide)[0], judged(rule)[0])
                if judged(rule)[0] == "sound":
                    self.assertEqual(greatest(wide)[0], greatest(rule)[0])
                lot = some_lot(chance, rule.box)
                grown = []
                for (over, under), pieces in lot:
                    shared = gcd(many, under)
                    grown.append(((over * many // shared, under // shared), pieces))
                self.assertEqual(wide.boxes(tuple(grown)), rule.boxes(lot))
                self.assertEqual(rule.boxes(lot), tells(text, lot))

    def test_worths_so_many_times_as_great(self):
        chance = Random(124)
        for text in some_texts(125, 60, 6):
            rule = Rule(text)
            for many in (2, 99):
                self.same([within(rule, rule.times(many)), within(rule.times(many), rule)], [("within",), ("within",)])
                lot = some_lot(chance, rule.box)
                self.assertEqual(rule.times(many).boxes(lot), rule.boxes(lot))

    def test_less(self):
        chance = Random(126)
        for text in some_texts(127, 80, 8):
            rule = Rule(text)
            greater = Rule(text.replace(f"bound {rule.bound}", f"bound {rule.bound + chance.randint(1, 9)}", 1))
            self.same(within(greater, rule), ("within",))
            less = rule
            for number, step in enumerate(rule.steps):
                less = less.with_worth(number, chance.randint(0, step[2]))
            self.same(within(less, rule), ("within",))
            if judged(rule)[0] == "sound":
                self.assertEqual([judged(less)[0], judged(greater)[0]], ["sound", "sound"])


if __name__ == "__main__":
    unittest.main()
