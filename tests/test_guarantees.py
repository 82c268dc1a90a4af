"""Section 3: the guarantees (a) to (f), over the whole program."""

import unittest
from fractions import Fraction
from random import Random

from sizesreckoned.boxes import wanted
from sizesreckoned.choosing import cheapest
from sizesreckoned.docks import Dock
from sizesreckoned.errors import Broken, Full, Known
from sizesreckoned.greatest import best_rules, greatest
from sizesreckoned.journals import journal, read_journal
from sizesreckoned.kinds import lowest
from sizesreckoned.making import behind, finer, rounding
from sizesreckoned.mixed import best
from sizesreckoned.rules import Rule
from sizesreckoned.sound import judged
from tests.checking import HALF
from tests.docking import DockChecks, Model, some_deed, some_rules
from tests.reckoning import fewest_boxes, fills, is_greatest, is_sound, parts, some_size, some_things, tells, text_of

NAMES = "abcdefghijkl"


def dock_of(box, sizes, rules):
    """Return a dock with things of these sizes at which those of the rules are known that can be learned."""
    dock = Dock(box)
    for name, size in zip(NAMES, sizes):
        dock.come(name, size)
    for rule in rules:
        try:
            dock.learn(rule)
        except (Broken, Known, Full):
            pass
    return dock


def few_things(chance, box):
    """Return things for the box by chance, no more than twelve of them, many of them somewhat more than a share."""
    while True:
        things = some_things(chance, box, 4, 4)
        least = chance.choice((box // 6, box // 3, box // 2))
        things = tuple((size, many) for size, many in things if size > least)
        if 1 <= sum(many for _, many in things) <= 12:
            return things


def sizes_of(things):
    """Return the sizes of all things, one by one."""
    return [(size, 1) for size, many in things for _ in range(many)]


class Guarantees(DockChecks):

    def test_all_lots(self):
        # (a) What is told is no more than how many boxes are wanted.
        chance = Random(701)
        by_rules = 0
        for _ in range(250):
            box = chance.choice((1, 2, 3, 5, 8, 12, 20))
            things = few_things(chance, box)
            rules = some_rules(chance, box, 3)
            if box > 1:
                rules.append(finer(rounding(1), box // 2) if box % 2 == 0 else rounding(box - 1))
            dock = dock_of(box, sizes_of(things), rules[::-1])
            number, by = dock.told()
            by_rules += by is not None
            self.assertLessEqual(number, wanted(box, things)[0])
            self.assertLessEqual(number, fewest_boxes(box, things))
            for rule in dock.rules:
                self.assertTrue(is_sound(rule.text))
        self.assertGreater(by_rules, 15)

    def test_all_lots_of_one_box(self):
        # (a) Whatever fits one box is never told to want more.
        chance = Random(702)
        done = 0
        while done < 200:
            box = chance.choice((1, 2, 3, 5, 12))
            sizes = [some_size(chance, box) for _ in range(chance.randint(1, 5))]
            if fills([(size, 1) for size in sizes]) <= box:
                self.same(dock_of(box, sizes, some_rules(chance, box, 4)).told(), (1, None))
                done += 1

    def test_times_of_worths(self):
        # (b) With all worths and bounds so many times as great.
        chance = Random(703)
        for _ in range(60):
            box = chance.choice((1, 2, 3, 5, 12, 60))
            rules = [rule for rule in some_rules(chance, box, 5) if judged(rule)[0] == "sound"]
            greater = [rule.times(chance.randint(1, 99)) for rule in rules]
            sizes = [some_size(chance, box) for _ in range(chance.randint(0, 12))]
            docks = [dock_of(box, sizes, many) for many in (rules, greater)]
            self.same(docks[0].told(), docks[1].told())
            self.same(len(docks[0].rules), len(docks[1].rules))
            for one, other in zip(rules, greater):
                self.same([judged(other)[0], greatest(other)[0]], ["sound", greatest(one)[0]])

    def test_times_of_sizes(self):
        # (b) With all sizes and boxes so many times as great.
        chance = Random(704)
        by_rules = 0
        for _ in range(120):
            box = chance.choice((1, 2, 3, 4, 6, 10))
            many = chance.randint(1, 60 // box)
            rules = some_rules(chance, box, 3)
            sizes = [some_size(chance, box) for _ in range(chance.randint(0, 12))]
            if box % 2 == 0:
                # Somewhat more than half a box each.
                rules.insert(0, finer(rounding(1), box // 2))
                sizes += [lowest(box * 500 + chance.randint(1, 50), 1000) for _ in range(12 - len(sizes))]
            wider = [Fraction(*size) * many for size in sizes]
            wide = dock_of(many * box, [(size.numerator, size.denominator) for size in wider],
                           [finer(rule, many) for rule in rules])
            dock = dock_of(box, sizes, rules)
            self.same(wide.told(), dock.told())
            by_rules += dock.told()[1] is not None
            self.same([wide.why(number) for number in range(len(wide.rules))],
                      [dock.why(number) for number in range(len(dock.rules))])
            for rule in rules:
                self.same(judged(finer(rule, many))[0], judged(rule)[0])
                if judged(rule)[0] == "sound":
                    self.same(greatest(finer(rule, many))[0], greatest(rule)[0])
        self.assertGreater(by_rules, 10)

    def test_less(self):
        # (c) With a worth less, or the bound greater, a sound rule is sound, so a choice of more offers does, too.
        chance = Random(705)
        for _ in range(80):
            box = chance.choice((1, 2, 3, 5, 12))
            for rule in some_rules(chance, box, 3):
                numbers = [number for number, step in enumerate(rule.steps) if step[2] > 0][:5]
                if not numbers:
                    continue
                offers = tuple((number, chance.randrange(rule.steps[number][2]), 1) for number in numbers)
                told = cheapest(rule, offers)
                every = rule
                for number, worth, _ in offers:
                    every = every.with_worth(number, worth)
                if judged(rule)[0] == "sound":
                    self.same(told[:3], ("choice", 0, ()))
                if told[0] == "choice":
                    self.same(judged(every)[0], "sound")
                    _, bound, _ = parts(every.text)
                    more = every.text.replace(f"bound {bound}", f"bound {bound + chance.randint(1, 99)}")
                    self.same(judged(Rule(more))[0], "sound")
                else:
                    self.same(judged(every)[0], "broken")

    def test_rounding(self):
        # (d) Rules that round are learned, and sound rules one behind the other, too.
        for steps in range(1, 41):
            dock = Dock(steps + 1)
            self.assertIsNone(dock.learn(rounding(steps)))
            self.same(greatest(rounding(steps)), ("greatest",))
        self.assertTrue(is_greatest(rounding(3).text))
        self.assertIsNone(Dock(2).learn(behind(Rule(HALF), rounding(1))))
        chance = Random(706)
        for box in (1, 2, 3, 4):
            for one in best_rules(box, 4):
                other = chance.choice([rule for rule in some_rules(chance, 4, 30) if judged(rule)[0] == "sound"])
                self.assertIsNone(Dock(box).learn(behind(Rule(one), other)))

    def test_best(self):
        # (e) With the rule of best learned at least its worth is told, and by no sound rule more, as shares.
        chance = Random(707)
        for _ in range(120):
            box = chance.choice((1, 2, 3, 5, 10, 24, 60))
            things = few_things(chance, box)
            worth, text = best(box, things)[1], best(box, things)[3]
            dock = dock_of(box, sizes_of(things), [Rule(text)])
            self.same(len(dock.rules), 1)
            self.assertGreaterEqual(dock.told()[0], -(-worth[0] // worth[1]))
            self.same(sum(told for _, told in dock.why(0)) * worth[1], dock.rules[0].bound * worth[0])
            lot = tuple(((size, 1), many) for size, many in things)
            for rule in some_rules(chance, box, 2):
                if judged(rule)[0] == "sound":
                    self.assertLessEqual(rule.reckoned(lot) * worth[1], rule.bound * worth[0])
                    self.assertLessEqual(tells(rule.text, lot), -(-worth[0] // worth[1]))

    def test_live(self):
        # (f) What stands is what the deeds led to, whatever was undone, tried, copied and read back between them.
        chance = Random(708)
        for _ in range(30):
            box = chance.choice((1, 2, 5, 12, 60))
            rules = some_rules(chance, box, 5)
            dock, model = Dock(box), Model(box)
            for _ in range(40):
                way = chance.random()
                if way < 0.15:
                    before = model.copy()
                    with dock.trial():
                        for _ in range(4):
                            self.deed(dock, model, some_deed(chance, box, rules))
                    model = before
                elif way < 0.25:
                    dock.tried(lambda held: self.deed(held, model, some_deed(chance, box, rules)), keep=True)
                elif way < 0.3:
                    dock = dock.copy()
                elif way < 0.35:
                    dock = read_journal(journal(dock))
                    model.later = []
                else:
                    self.deed(dock, model, some_deed(chance, box, rules))
            self.looks_through(dock, model)

    def test_the_widest(self):
        # All at once as great as can be: box, steps, worths, numbers of sizes and things.
        chance = Random(709)
        rules = [Rule(text_of(60, 999999999, [0, *[place * 8333000 - chance.randint(0, 9) for place in range(1, 120)]]))
                 for _ in range(8)]
        sizes = []
        while len(sizes) < 12:
            size = Fraction(chance.randint(10 ** 8, 10 ** 9 - 1), chance.randint(10 ** 8, 10 ** 9 - 1))
            sizes.append((size.numerator, size.denominator))
        dock = dock_of(60, sizes, rules)
        self.same(dock.told()[0], max([-(-sum(Fraction(*size) for size in sizes) // 60),
                                       *[tells(rule.text, [(size, 1) for size in sizes]) for rule in dock.rules]]))
        self.assertEqual(read_journal(journal(dock)), dock)


if __name__ == "__main__":
    unittest.main()
