"""Sections 4 to 6 for rules of great boxes with many steps, and for lots of many sizes: the answers, as they ever were."""

import unittest
from fractions import Fraction
from random import Random

from sizesreckoned.errors import BadLot, Broken
from sizesreckoned.greatest import greatest, shows_greatest
from sizesreckoned.rules import Rule
from sizesreckoned.sound import judged, most, shows_judged
from tests.checking import Checks, any_values
from tests.reckoning import (least_table_that_holds, lot_breaks, most_of, most_room, parts, reckons, some_size,
                             table_holds, tells, text_of)


def rounding_text(box, bound):
    """Return the text of the rule of the box that rounds, with this bound."""
    lines = [f"box {box}", f"bound {bound}"]
    for number in range(1, box):
        lines += [f"from {number} {(box - 1) * number}", f"beyond {number} {box * number}"]
    return "\n".join(lines)


def unlike_lot(chance, box, many):
    """Return a lot of so many unlike sizes, none of them whole."""
    sizes = set()
    while len(sizes) < many:
        size = some_size(chance, box)
        if size[1] > 1:
            sizes.add(size)
    return tuple((size, chance.randint(1, 9)) for size in sorted(sizes))


class Box44(Checks):
    """The rule of box 44 with 86 steps."""

    def setUp(self):
        self.text = rounding_text(44, 1892)
        self.rule = Rule(self.text)

    def test_judged(self):
        self.assertEqual(len(self.rule), 86)
        table = tuple(43 * (space // 2) if space % 2 == 0 else 44 * (space // 2) for space in range(89))
        self.same(judged(self.rule), ("sound", table))
        self.assertTrue(table_holds(self.text, table))
        self.assertIs(shows_judged(self.rule, ("sound", table)), True)
        for space in range(1, 89):
            for more in (-1, 1):
                value = (*table[:space], table[space] + more, *table[space + 1:])
                self.assertIs(shows_judged(self.rule, ("sound", value)), table_holds(self.text, value))

    def test_judged_broken(self):
        for bound in (1891, 1):
            rule = Rule(rounding_text(44, bound))
            self.same(judged(rule), ("broken", (((45, 44), 43),)))
            for value in (("greatest",), ("room", (1, 2), (3, 1)), None):
                self.raises(Broken, (((45, 44), 43),), shows_greatest, rule, value)
            self.raises(Broken, (((45, 44), 43),), greatest, rule)
        for number, lot in [(0, (((1, 1), 44),)), (1, (((45, 44), 43),)), (42, (((22, 1), 2),)),
                            (43, (((24, 23), 21), ((507, 23), 1))), (84, (((1, 1), 1), ((43, 1), 1))),
                            (85, (((87, 2), 1),))]:
            rule = self.rule.with_worth(number, self.rule.steps[number][2] + 1)
            self.same(judged(rule), ("broken", lot))
            self.assertTrue(lot_breaks(rule.text, lot))
            self.assertIs(shows_judged(rule, ("broken", lot)), True)

    def test_greatest(self):
        self.same(greatest(self.rule), ("greatest",))
        for number, room in [(0, ((1, 1), (1849, 44))), (1, ((3, 2), (1248, 29))), (42, ((22, 1), (946, 1))),
                             (43, ((45, 2), (968, 1))), (84, ((43, 1), (1849, 1))), (85, ((87, 2), (1892, 1)))]:
            rule = self.rule.with_worth(number, self.rule.steps[number][2] - 1)
            self.same(greatest(rule), ("room", *room))
            self.assertIs(shows_greatest(rule, ("room", *room)), True)
            self.assertIs(shows_greatest(rule, ("greatest",)), False)
            self.assertIs(shows_greatest(self.rule, ("room", *room)), False)
        self.same(greatest(Rule(rounding_text(44, 1893))), ("room", (1, 2), (1, 88)))
        self.same(greatest(Rule(rounding_text(44, 999999999))), ("room", (1, 2), (999998107, 88)))

    def test_shown(self):
        self.assertIs(shows_greatest(self.rule, ("room", (1, 2), (3, 1))), False)
        self.assertIs(shows_greatest(self.rule, ("greatest",)), True)
        for value in [*any_values(), "greatest", ["greatest"], ("room",), ("room", (1, 2)), ("room", (1, 2), 3),
                      ("room", (45, 1), (9999, 1)), ("room", (1, 2), (0, 1)), ("greatest", 1)]:
            self.assertIs(shows_greatest(self.rule, value), False)
        # Of a rule that is greatest no size can be reckoned more, however little.
        chance = Random(501)
        for _ in range(1500):
            size = some_size(chance, 44)
            told = self.rule.worth(size)
            self.assertIs(shows_greatest(self.rule, ("room", size, (10 ** 12 * told + 1, 10 ** 12))), False)

    def test_shown_where_there_is_room(self):
        for number in (57, 84, 85):
            rule = self.rule.with_worth(number, self.rule.steps[number][2] - 5)
            word, start, now = rule.steps[number]
            size = Fraction(start) + (Fraction(1, 3) if word == "beyond" else 0)
            room = most_room(rule.text, size)
            self.assertGreater(room, now)
            for more, right in [(room, True), (room + Fraction(1, 10 ** 9), False), ((room + now) / 2, True)]:
                value = ("room", (size.numerator, size.denominator), (more.numerator, more.denominator))
                self.assertIs(shows_greatest(rule, value), right)

    def test_most(self):
        for size, told in [((1, 2), 0), ((1, 1), 43), ((3, 2), 44), ((22, 1), 946), ((45, 2), 968), ((87, 2), 1892),
                           ((44, 1), 1892), ((1, 999999999), 0)]:
            self.same(most(self.rule, size), told)
        for size in [(1, 2), (5, 1), (23, 2), (16, 1)]:
            self.same(most(self.rule, size), most_of(self.text, Fraction(*size)))
        self.same(judged(self.rule)[1], least_table_that_holds(self.text))


class Box60(Checks):

    def some_texts(self):
        """Return texts of rules of box 60 with 118 steps and more, sound ones and others."""
        chance = Random(511)
        found = [rounding_text(60, bound) for bound in (3539, 3540, 3541)]
        for more in range(8):
            worths = [0]
            for place in range(2, 121):
                # Those of greater sizes are greater still, so that all steps are wanted.
                worths.append((place // 2) ** 2 + 7 * place + chance.randint(0, 3) * (place % 3))
            bound = least_table_that_holds(text_of(60, 1, worths))[-1] + more % 3 - 1
            found.append(text_of(60, bound, worths))
        return found

    def test_against_the_reckoning(self):
        words = []
        for text in self.some_texts():
            rule = Rule(text)
            word, shown = judged(rule)
            words.append(word)
            table = least_table_that_holds(text)
            self.assertEqual(word == "sound", table[-1] <= rule.bound)
            self.assertIs(shows_judged(rule, (word, shown)), True)
            for space in range(1, 121):
                self.same(most(rule, (space, 2) if space % 2 else (space // 2, 1)), table[space])
            if word == "sound":
                self.assertTrue(table_holds(text, shown))
                self.same(shown, table)
                self.assertIs(shows_greatest(rule, greatest(rule)), True)
            else:
                self.assertTrue(lot_breaks(text, shown))
        self.assertGreater(min(words.count("sound"), words.count("broken")), 2)

    def test_with_few_steps(self):
        for lines in ["", "\nfrom 60 1", "\nbeyond 59 1", "\nbeyond 0 0", "\nfrom 1 1", "\nfrom 7 2\nfrom 14 3",
                      "\nfrom 7 2\nfrom 14 5\nbeyond 14 4"]:
            text = "box 60\nbound 60" + lines
            self.same(judged(Rule(text)), ("sound", least_table_that_holds(text)))

    def test_lots_of_many_sizes(self):
        chance = Random(512)
        for text in self.some_texts()[:4] + ["box 60\nbound 4\nfrom 12 1\nbeyond 20 2\nfrom 30 3", "box 60\nbound 1"]:
            rule = Rule(text)
            for many in (10, 17, 30):
                lot = unlike_lot(chance, 60, many)
                self.same([rule.reckoned(lot), rule.boxes(lot)], [reckons(text, lot), tells(text, lot)])
                at = chance.randrange(many)
                for wrong in [((60 * 7 + 1, 7), 1), ((61, 1), 1), ((2, 4), 1), ((1, 2), 0), ((1, 2), True), ((0, 1), 1),
                              ((True, 2), 1), ((1, -2), 1), ((-1, 2), 1), ((1, 2),), [(1, 2), 1], ([1, 2], 1), None, 1,
                              lot[at - 1], (lot[at - 1][0], 10), ((1, 2), 1, 1), ((1, 2, 3), 1), (((1, 2), 1), 1)]:
                    value = (*lot[:at], wrong, *lot[at + 1:])
                    self.raises(BadLot, value, rule.reckoned, value)
                    self.raises(BadLot, value, rule.boxes, value)
                self.raises(BadLot, list(lot), rule.boxes, list(lot))

    def test_worths_of_all_spaces(self):
        for text in self.some_texts():
            rule = Rule(text)
            for number, (word, start, told) in enumerate(parts(text)[2]):
                size = (start, 1) if word == "from" else (2 * start + 1, 2)
                self.same([rule.worth(size), rule.with_worth(number, 5).worth(size)], [told, 5])


if __name__ == "__main__":
    unittest.main()
