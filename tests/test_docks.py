"""Section 12: docks, their deeds, what refuses them, what they tell, copies, and when two are equal."""

import unittest
from random import Random

from sizesreckoned.desk import Desk
from sizesreckoned.docks import Dock
from sizesreckoned.errors import (BadBox, BadName, BadSize, Broken, Full, Here, Known, NoRule, NothingToRedo,
                                  NothingToUndo, NotHere, OtherBox)
from sizesreckoned.journals import journal, read_journal
from sizesreckoned.making import finer, rounding
from sizesreckoned.rules import Rule
from tests.checking import HALF, THIRDS, Checks, any_values
from tests.docking import DockChecks, Model, some_deed, some_rules
from tests.reckoning import least_table_that_holds, lot_breaks, text_of

NAMES = "abcdefghijkl"
# Five rules of box 60; each tells more than all others of some size.
UNLIKE = [f"box 60\nbound {60 // n}\nfrom {n} 1" for n in (60, 30, 20, 15, 12)]


def full_dock(box=2):
    """Return a dock with twelve things."""
    dock = Dock(box)
    for name in NAMES:
        dock.come(name, (1, 1))
    return dock


class Created(Checks):

    def test_boxes(self):
        for box in (1, 2, 59, 60):
            dock = Dock(box)
            self.same([dock.box, dock.things, dock.rules, dock.done, len(dock), dock.told()],
                      [box, (), (), 0, 0, (0, None)])

    def test_wrong_boxes(self):
        for value in any_values() + [61, 100, 999999999, 10 ** 40, "1", (1,), [1], 1.0]:
            self.raises(BadBox, value, Dock, value)


class Names(Checks):

    def test_names_that_are_right(self):
        dock = Dock(1)
        for number, name in enumerate(("a", "z", "abcdefgh", "zzzzzzzz", "aa", "none")):
            self.assertIsNone(dock.come(name, (1, 1)))
            self.same([len(dock), name in dock, dock.size(name)], [number + 1, True, (1, 1)])

    def test_wrong_names(self):
        dock = Dock(1)
        for value in any_values():
            if value != "a":
                self.raises(BadName, value, dock.come, value, (1, 1))
                self.raises(BadName, value, dock.come, value, None)
        for value in ["", "abcdefghi", "A", "aB", "a1", "1", "a b", " a", "a ", "a-b", "a\n", "\n", "a_b", "none" * 3,
                      "a.", ["a"], ("a",), "`", "{", "@", "["]:
            self.raises(BadName, value, dock.come, value, (1, 1))
        self.same([len(dock), dock.done], [0, 0])

    def test_in(self):
        dock = Dock(2)
        dock.come("a", (1, 1))
        dock.come("box", (1, 1))
        for value in any_values() + ["b", "aa", "ab", "A", "", "a ", "box 2", ("a",), ["a"], ("a", (1, 1)), b"a"]:
            self.assertIs(value in dock, value == "a")
        self.assertIs("box" in dock, True)


class Come(Checks):

    def test_sizes_at_the_box(self):
        for box in (1, 7, 60):
            dock = Dock(box)
            for number, size in enumerate([(box, 1), (1, 999999999), (999999998, 999999999), (box * 7 - 1, 7)]):
                dock.come(NAMES[number], size)
                self.same(dock.size(NAMES[number]), size)
            for value in any_values() + [(box + 1, 1), (box * 7 + 1, 7), (box * 10000000 + 1, 10000000), (10 ** 40, 1),
                                         (10 ** 40 * box + 1, 10 ** 40), [1, 1], (1.0, 1), (True, 1), (1, True),
                                         ((1, 1),)]:
                self.raises(BadSize, value, dock.come, "x", value)
            self.same(len(dock), 4)

    def test_the_sequence_of_refusals(self):
        dock = full_dock()
        for size in ((1, 1), (3, 1), None):
            for name in ("A", "", None, "abcdefghi"):
                self.raises(BadName, name, dock.come, name, size)
            for name in NAMES:
                self.raises(Here, name, dock.come, name, size)
        for size in ((3, 1), (0, 1), None, (2, 2), True):
            self.raises(BadSize, size, dock.come, "m", size)
        self.raises(Full, 12, dock.come, "m", (1, 1))
        dock.go("l")
        self.raises(NotHere, "m", dock.size, "m")
        dock.come("m", (2, 1))
        self.raises(Full, 12, dock.come, "l", (1, 1))
        self.raises(Here, "m", dock.come, "m", (1, 1))

    def test_twelve_things(self):
        dock = full_dock()
        self.same([len(dock), dock.done, dock.told()], [12, 12, (6, None)])
        self.same(dock.things, tuple((name, (1, 1)) for name in NAMES))

    def test_things_ascend_by_names(self):
        dock = Dock(9)
        for number, name in enumerate(("ba", "b", "abc", "z", "ab", "aaaaaaaa", "c")):
            dock.come(name, (9 - number, 1))
        self.same(dock.things, (("aaaaaaaa", (4, 1)), ("ab", (5, 1)), ("abc", (7, 1)), ("b", (8, 1)), ("ba", (9, 1)),
                                ("c", (3, 1)), ("z", (6, 1))))
        dock.learn(Rule("box 9\nbound 9\nfrom 4 4\nfrom 7 6"))
        self.same(dock.why(0), (("aaaaaaaa", 4), ("ab", 4), ("abc", 6), ("b", 6), ("ba", 6), ("c", 0), ("z", 4)))


class Go(Checks):

    def test_gone(self):
        dock = full_dock()
        for number, name in enumerate(("c", "a", "l")):
            self.assertIsNone(dock.go(name))
            self.same([name in dock, len(dock)], [False, 11 - number])
            self.raises(NotHere, name, dock.go, name)
            self.raises(NotHere, name, dock.size, name)
        dock.come("a", (1, 2))
        self.same(dock.size("a"), (1, 2))

    def test_not_here(self):
        for dock in (Dock(2), full_dock()):
            for value in any_values() + ["m", "A", "", "aa", ("a",), ["a"], "abcdefghi"]:
                if value != "a" or len(dock) == 0:
                    self.raises(NotHere, value, dock.go, value)
                    self.raises(NotHere, value, dock.size, value)


class Learn(DockChecks):

    def test_other_boxes(self):
        dock = Dock(2)
        for value in [*[value for value in any_values() if value != Rule(HALF)], HALF, "learn box:2 bound:2",
                      Rule(THIRDS), Rule("box 60\nbound 1"), Rule("box 1\nbound 1\nfrom 1 9"), [Rule(HALF)],
                      (Rule(HALF),)]:
            self.raises(OtherBox, value, dock.learn, value)
        self.same([dock.rules, dock.done], [(), 0])

    def broken(self, dock, rule):
        """Check that the rule is refused with a lot that shows why."""
        with self.assertRaises(Broken) as caught:
            dock.learn(rule)
        self.assertIs(type(caught.exception), Broken)
        self.assertTrue(lot_breaks(rule.text, caught.exception.value))

    def test_broken_rules(self):
        dock = Dock(3)
        for text in (THIRDS, "box 3\nbound 1\nbeyond 0 1", "box 3\nbound 2\nfrom 1 1", "box 3\nbound 1\nfrom 3 2"):
            self.broken(dock, Rule(text))
        self.same([dock.rules, dock.done], [(), 0])

    def test_known(self):
        dock = Dock(2)
        for text in ("box 2\nbound 1", HALF):
            self.assertIsNone(dock.learn(Rule(text)))
        for text, number in [("box 2\nbound 1", 0), ("box 2\nbound 9", 0), ("box 2\nbound 9\nbeyond 0 0", 0), (HALF, 1),
                             ("box 2\nbound 4\nfrom 1 2\nbeyond 1 4", 1), ("box 2\nbound 3\nfrom 1 1\nbeyond 1 3", 1),
                             ("box 2\nbound 1\nfrom 2 1", 1), ("box 2\nbound 2\nfrom 1 1\nbeyond 1 1\nfrom 2 2", 1)]:
            self.raises(Known, number, dock.learn, Rule(text))
        self.same([[rule.text for rule in dock.rules], dock.done], [["box 2\nbound 1", HALF], 2])

    def test_the_first_one_that_tells_no_fewer(self):
        dock = Dock(2)
        low, half = Rule("box 2\nbound 1\nfrom 2 1"), Rule(HALF)
        dock.learn(low)
        dock.learn(half)
        self.raises(Known, 0, dock.learn, low)
        dock.forget(0)
        self.raises(Known, 0, dock.learn, low)
        self.raises(Known, 0, dock.learn, half)

    def test_a_mixture_does_not_make_a_rule_known(self):
        # The third one tells no more than both together, but each of them tells less of some lot.
        dock = Dock(4)
        for text in ("box 4\nbound 4\nfrom 1 1", "box 4\nbound 1\nbeyond 2 1", "box 4\nbound 8\nfrom 1 1\nbeyond 2 4"):
            self.assertIsNone(dock.learn(Rule(text)))
        self.same(len(dock.rules), 3)

    def test_four_rules(self):
        dock = Dock(60)
        for number in range(4):
            dock.learn(Rule(UNLIKE[number]))
        self.raises(Full, 4, dock.learn, Rule(UNLIKE[4]))
        self.same([[rule.text for rule in dock.rules], dock.done], [UNLIKE[:4], 4])

    def test_the_sequence_of_refusals(self):
        dock = Dock(60)
        for number in range(4):
            dock.learn(Rule(UNLIKE[number]))
        self.raises(OtherBox, Rule(THIRDS), dock.learn, Rule(THIRDS))
        self.raises(OtherBox, None, dock.learn, None)
        # A broken rule that tells no more than a known one is not to be had, since that would be broken, too.
        self.broken(dock, Rule("box 60\nbound 5\nfrom 10 1"))
        for number in range(4):
            self.raises(Known, number, dock.learn, Rule(UNLIKE[number]))
            self.raises(Known, number, dock.learn, Rule(UNLIKE[number]).times(7))
        self.raises(Full, 4, dock.learn, Rule(UNLIKE[4]))
        dock.forget(1)
        self.raises(Known, 1, dock.learn, Rule(UNLIKE[2]))
        dock.learn(Rule(UNLIKE[4]))
        self.same([rule.text for rule in dock.rules], [UNLIKE[at] for at in (0, 2, 3, 4)])

    def test_numbers_behind_forget(self):
        dock = Dock(60)
        for number in range(4):
            dock.learn(Rule(UNLIKE[number]))
        dock.come("a", (20, 1))
        before = [dock.why(number) for number in range(4)]
        self.assertIsNone(dock.forget(1))
        self.same([dock.why(number) for number in range(3)], [before[0], before[2], before[3]])
        self.raises(NoRule, 3, dock.why, 3)
        dock.forget(2)
        dock.forget(0)
        self.same([rule.text for rule in dock.rules], [UNLIKE[2]])
        dock.forget(0)
        self.raises(NoRule, 0, dock.forget, 0)

    def test_no_rules(self):
        for many in (0, 1, 3):
            dock = Dock(60)
            for number in range(many):
                dock.learn(Rule(UNLIKE[number]))
            for value in any_values() + [many, many + 1, -many, 999999999, 10 ** 40, "0", (0,), True, False]:
                if type(value) is int and 0 <= value < many:
                    continue
                self.raises(NoRule, value, dock.why, value)
                self.raises(NoRule, value, dock.forget, value)
            self.same([len(dock.rules), dock.done], [many, many])


class Told(Checks):

    def dock(self, box, sizes, *texts):
        """Return a dock with things of these sizes, at which these rules are known."""
        dock = Dock(box)
        for name, size in zip(NAMES, sizes):
            dock.come(name, size)
        for text in texts:
            dock.learn(Rule(text))
        return dock

    def test_without_things_or_rules(self):
        self.same(self.dock(2, []).told(), (0, None))
        self.same(self.dock(2, [], HALF).told(), (0, None))
        self.same(self.dock(2, [(1, 2)]).told(), (1, None))
        self.same(self.dock(2, [(2, 1), (2, 1)]).told(), (2, None))

    def test_by_what_is_filled(self):
        # Of three halves and a little the rule tells 2 boxes; they fill a little more than 1.
        self.same(self.dock(2, [(11, 10), (11, 10)]).told(), (2, None))
        self.same(self.dock(2, [(11, 10), (11, 10)], HALF).told(), (2, None))
        self.same(self.dock(2, [(11, 10)] * 3, HALF).told(), (3, 0))
        self.same(self.dock(2, [(1, 1)] * 3, HALF).told(), (2, None))
        self.same(self.dock(2, [(1, 2)] * 12, HALF).told(), (3, None))
        self.same(self.dock(2, [(1, 2)] * 11 + [(500000000, 999999999)], HALF).told(), (4, None))

    def test_rounded_up(self):
        for sizes, told in [([(1, 999999999)], 1), ([(1, 1), (1, 1)], 1), ([(1, 1), (1, 1), (1, 999999999)], 2),
                            ([(2, 3), (2, 3), (2, 3)], 1), ([(2, 3), (2, 3), (2, 3), (1, 123456789)], 2),
                            ([(999999998, 999999999), (1, 999999999), (1, 1)], 1)]:
            self.same(self.dock(2, sizes).told(), (told, None))

    def test_by_the_first_of_several(self):
        one, other, third = ("box 4\nbound 1\nbeyond 2 1", "box 4\nbound 2\nfrom 2 1\nbeyond 2 2",
                             "box 4\nbound 3\nfrom 1 0\nbeyond 1 1\nbeyond 2 2\nbeyond 3 3")
        sizes = [(9, 4)] * 3
        self.same(self.dock(4, sizes, one, other).told(), (3, 0))
        self.same(self.dock(4, sizes, third, one, other).told(), (3, 1))
        self.same(self.dock(4, sizes, one, third, other).told(), (3, 0))
        self.same(self.dock(4, sizes, third).told(), (2, None))
        dock = self.dock(4, sizes, third, one, other)
        dock.forget(0)
        self.same(dock.told(), (3, 0))
        dock.forget(0)
        self.same(dock.told(), (3, 0))
        dock.forget(0)
        self.same(dock.told(), (2, None))

    def test_by_a_later_one_that_tells_more(self):
        one, other = "box 6\nbound 2\nbeyond 2 1", "box 6\nbound 1\nbeyond 3 1"
        sizes = [(13, 4)] * 5
        self.same(self.dock(6, sizes, one).told(), (3, None))
        self.same(self.dock(6, sizes, one, other).told(), (5, 1))
        self.same(self.dock(6, [(5, 2)] * 12, one, other).told(), (6, 0))

    def test_why(self):
        dock = self.dock(2, [(1, 1), (11, 10), (1, 2)], "box 2\nbound 1\nbeyond 1 1", HALF)
        self.same([dock.why(0), dock.why(1)], [(("a", 0), ("b", 1), ("c", 0)), (("a", 1), ("b", 2), ("c", 0))])
        self.same(Dock(2).things, ())
        self.same(self.dock(2, [], HALF).why(0), ())

    def test_great_numbers(self):
        sizes = [(under + 1, under) for under in range(999999900, 999999912)]
        dock = self.dock(60, sizes, "box 60\nbound 60\nfrom 1 1", "box 60\nbound 999999999\nbeyond 59 999999999")
        self.same(dock.told(), (1, None))
        self.same([dock.why(0), dock.why(1)], [tuple((name, worth) for name in NAMES) for worth in (1, 0)])

    def test_just_full_by_great_numbers(self):
        # The sizes of each of the under ones fill a whole box, and a little more wants one box more.
        sizes = []
        for under in (999999937, 999999929, 999999893):
            sizes += [(123456789, under), (987654321, under), (2 * under - 1111111110, under)]
        dock = self.dock(2, sizes)
        self.same(dock.told(), (3, None))
        dock.come("x", (1, 999999999))
        self.same(dock.told(), (4, None))
        dock.go("a")
        self.same(dock.told(), (3, None))


class Undone(DockChecks):

    def test_each_deed(self):
        dock, model = Dock(60), Model(60)
        for deed in [("come", "a", (1, 2)), ("learn", Rule(UNLIKE[0])), ("come", "b", (60, 1)), ("go", "a"),
                     ("learn", Rule(UNLIKE[1])), ("forget", 0), ("go", "b"), ("come", "a", (59, 1)), ("forget", 0)]:
            self.assertTrue(self.deed(dock, model, deed))
            self.looks_through(dock, model)
        for _ in range(9):
            self.assertTrue(self.deed(dock, model, ("undo",)))
            self.looks_through(dock, model)
        self.assertFalse(self.deed(dock, model, ("undo",)))

    def test_nothing_to_undo(self):
        dock = Dock(2)
        self.raises(NothingToUndo, None, dock.undo)
        self.raises(NothingToRedo, None, dock.redo)
        dock.come("a", (1, 1))
        self.raises(NothingToRedo, None, dock.redo)
        self.assertIsNone(dock.undo())
        self.raises(NothingToUndo, None, dock.undo)
        self.assertIsNone(dock.redo())
        self.raises(NothingToRedo, None, dock.redo)
        self.same([dock.things, dock.done], [(("a", (1, 1)),), 1])

    def test_a_deed_ends_what_can_be_done_again(self):
        for deed in [("come", "b", (1, 1)), ("go", "a"), ("learn", Rule("box 2\nbound 1\nbeyond 1 1")), ("forget", 0)]:
            dock, model = Dock(2), Model(2)
            for first in [("come", "a", (1, 1)), ("learn", Rule(HALF)), ("come", "c", (1, 1)), ("undo",)]:
                self.deed(dock, model, first)
            if deed[0] == "learn":
                self.deed(dock, model, ("undo",))
            self.assertTrue(self.deed(dock, model, deed))
            self.raises(NothingToRedo, None, dock.redo)
            self.looks_through(dock, model)

    def test_a_refused_one_does_not(self):
        dock, model = Dock(2), Model(2)
        for name in NAMES:
            self.deed(dock, model, ("come", name, (1, 1)))
        self.deed(dock, model, ("learn", Rule(HALF)))
        self.deed(dock, model, ("go", "b"))
        self.deed(dock, model, ("undo",))
        for deed in [("come", "A", (1, 1)), ("come", "a", (1, 1)), ("come", "m", (3, 1)), ("come", "m", (1, 1)),
                     ("go", "m"), ("go", None), ("learn", None), ("learn", Rule(THIRDS)), ("learn", Rule(HALF)),
                     ("learn", Rule("box 2\nbound 1\nfrom 1 1")), ("forget", 1), ("forget", True)]:
            self.assertFalse(self.deed(dock, model, deed))
            self.looks_through(dock, model)
        dock.redo()
        self.assertFalse("b" in dock)

    def test_many_drawn_rows(self):
        chance = Random(611)
        words = {}
        for _ in range(40):
            box = chance.choice((1, 2, 3, 5, 12, 60))
            rules = some_rules(chance, box, 6)
            dock, model = Dock(box), Model(box)
            for _ in range(45):
                deed = some_deed(chance, box, rules)
                refusal = model.refusal(deed)
                word = deed[0] if refusal is None else refusal[0].__name__
                words[word] = words.get(word, 0) + 1
                self.deed(dock, model, deed)
                self.looks(dock, model)
            self.looks_through(dock, model)
        for word in ("come", "go", "learn", "forget", "undo", "redo", "BadName", "Here", "BadSize", "NotHere",
                     "OtherBox", "Broken", "Known", "NoRule", "NothingToUndo", "NothingToRedo"):
            self.assertGreater(words.get(word, 0), 3, word)

    def test_many_deeds(self):
        rules = [Rule(text) for text in UNLIKE[:2]]
        dock = Dock(60)
        for number in range(1200):
            dock.come(NAMES[number % 12], (number % 60 + 1, 1))
            if number % 12 > 0:
                dock.go(NAMES[number % 12])
            if number % 12 == 11:
                dock.go("a")
        for number in range(200):
            dock.learn(rules[number % 2])
            dock.forget(0)
        done = dock.done
        self.same([len(dock), dock.rules], [0, ()])
        lines = journal(dock).split("\n")
        self.same([done, lines[0], lines[-1]], [2800, "dock 60", "forget 0"])
        for _ in range(3):
            for at in range(done):
                dock.undo()
                if at % 100 == 0:
                    self.same(journal(dock).split("\n"), lines[:done - at])
            self.same([dock.things, dock.rules, dock.done], [(), (), 0])
            for _ in range(done):
                dock.redo()
        self.assertEqual(dock, read_journal("\n".join(lines)))


class Alike(DockChecks):

    def test_copies(self):
        chance = Random(621)
        for _ in range(25):
            box = chance.choice((1, 2, 3, 12, 60))
            rules = some_rules(chance, box, 4)
            dock, model = Dock(box), Model(box)
            for _ in range(25):
                self.deed(dock, model, some_deed(chance, box, rules, 0.95))
            other, second = dock.copy(), model.copy()
            self.assertIs(type(other), Dock)
            self.assertEqual(other, dock)
            self.looks_through(other, second)
            for _ in range(10):
                self.deed(other, second, some_deed(chance, box, rules))
            self.looks_through(dock, model)
            for _ in range(10):
                self.deed(dock, model, some_deed(chance, box, rules))
            self.looks_through(other, second)
            self.looks_through(dock, model)
            self.assertIs(dock == other, model.journal() == second.journal())

    def test_what_can_be_done_again_is_alike(self):
        dock = Dock(2)
        dock.come("a", (1, 1))
        dock.come("b", (2, 1))
        dock.undo()
        dock.undo()
        other = dock.copy()
        for one in (other, dock):
            one.redo()
            one.redo()
            self.same(one.things, (("a", (1, 1)), ("b", (2, 1))))
            self.raises(NothingToRedo, None, one.redo)

    def test_equal_if_the_journals_are(self):
        docks = [Dock(2), Dock(3), Dock(2)]
        for name, size in [("a", (1, 1)), ("a", (1, 2)), ("b", (1, 1))]:
            dock = Dock(2)
            dock.come(name, size)
            docks.append(dock)
        for names in ("ab", "ba"):
            dock = Dock(2)
            for name in names:
                dock.come(name, (1, 1))
            docks.append(dock)
        gone = docks[3].copy()
        gone.go("a")
        docks.append(gone)
        for text in (HALF, "box 2\nbound 2\nfrom 1 1\nbeyond 1 2\nfrom 2 2", "box 2\nbound 4\nfrom 1 2\nbeyond 1 4"):
            for _ in range(2):
                dock = Dock(2)
                dock.learn(Rule(text))
                docks.append(dock)
        forgotten = docks[-1].copy()
        forgotten.forget(0)
        docks.append(forgotten)
        for one in docks:
            for other in docks:
                self.assertIs(one == other, journal(one) == journal(other))
                self.assertIs(one != other, journal(one) != journal(other))
        self.assertEqual(len({journal(dock) for dock in docks}), 12)

    def test_taken_back_deeds_beside_none(self):
        dock = Dock(2)
        dock.come("a", (1, 1))
        dock.learn(Rule(HALF))
        dock.undo()
        other = Dock(2)
        self.assertNotEqual(dock, other)
        other.come("a", (1, 1))
        self.assertEqual(dock, other)
        dock.undo()
        self.assertEqual(dock, Dock(2))
        dock.redo()
        dock.redo()
        self.assertNotEqual(dock, other)
        other.learn(Rule(HALF))
        self.assertEqual(dock, other)

    def test_not_equal_though_the_things_are(self):
        dock = Dock(2)
        dock.come("a", (1, 1))
        dock.go("a")
        self.same([dock.things, dock.rules], [(), ()])
        self.assertNotEqual(dock, Dock(2))

    def test_equal_to_nothing_else(self):
        for dock in (Dock(2), full_dock()):
            for value in any_values() + ["dock 2", journal(dock), dock.things, dock.rules, Desk(journal(dock)), [dock],
                                         (dock,), 2, dock.told(), Rule(HALF)]:
                told = type(value) is Dock and len(dock) == 0
                self.assertIs(dock == value, told)
                self.assertIs(value == dock, told)

    def test_things_that_were_told_are_left_as_they_were(self):
        dock = full_dock()
        things, rules = dock.things, dock.rules
        dock.go("a")
        dock.learn(Rule(HALF))
        self.same([len(things), rules], [12, ()])

    def test_equal_calls_return_equal_results(self):
        dock = full_dock()
        dock.learn(Rule(HALF))
        for _ in range(3):
            self.same([dock.told(), dock.why(0), dock.size("a")],
                      [(6, None), tuple((name, 1) for name in NAMES), (1, 1)])

    def test_great_rules(self):
        chance = Random(631)
        dock, model = Dock(60), Model(60)
        for number in range(4):
            worths = [0] + [(place // 2) * 100 + (place ** 2 if place % 4 == number else 0) for place in range(2, 121)]
            bound = least_table_that_holds(text_of(60, 1, worths))[-1]
            self.assertTrue(self.deed(dock, model, ("learn", Rule(text_of(60, bound, worths)))))
        for name in NAMES:
            under = chance.randint(10 ** 8, 10 ** 9 - 1)
            self.deed(dock, model, ("come", name, (under - 1, under)))
            self.looks(dock, model)
        self.deed(dock, model, ("learn", finer(rounding(1), 30)))
        self.looks_through(dock, model)


if __name__ == "__main__":
    unittest.main()
