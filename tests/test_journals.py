"""Section 13: journals, and docks that are read back from them."""

import unittest
from random import Random

from sizesreckoned.docks import Dock
from sizesreckoned.errors import BadJournal, NothingToRedo, ReckonError
from sizesreckoned.journals import journal, read_journal
from sizesreckoned.rules import Rule
from tests.checking import HALF, THIRDS, any_values
from tests.docking import DockChecks, Model, has_line, line_of, some_deed, some_rules

HALF_LINE = "learn box:2 bound:2 from:1:1 beyond:1:2"
HIGH_LINE = "learn box:2 bound:1 beyond:1:1"

WRONG_HEADS = ["", "dock", "dock ", "dock  2", " dock 2", "dock 2 ", "dock 0", "dock 61", "dock -1", "dock 02",
               "dock +2", "dock 2.0", "dock 2/1", "dock two", "dock 2 2", "box 2", "Dock 2", "dock:2", "dock 999999999",
               "come a 1", "2", "dock 1_0", "dock " + "9" * 300]

# Each is wrong behind `dock 2`, `come a 1`, and the rule of halves.
WRONG_LINES = [
    # Of no form.
    "", " ", "come", "come b", "come b ", "come  b 1", "come b  1", " come b 1", "come b 1 ", "come b 1 1", "Come b 1",
    "comeb 1", "come:b:1", "go", "go ", "go  a", " go a", "go a ", "go a b", "go a 1", "GO a", "forget", "forget ",
    "forget  0", " forget 0", "forget 0 ", "forget 0 0", "forget a", "forget None", "learn", "learn ", "undo", "redo",
    "told", "things", "why 0", "dock 2", "dock 3", "box 2", "a", "come a", "keep", "trial", "# a",
    # Sizes and integers written otherwise.
    "come b 0", "come b -1", "come b 01", "come b +1", "come b 1/1", "come b 2/1", "come b 2/4", "come b 1/0",
    "come b 0/1", "come b 1/02", "come b 01/2", "come b +1/2", "come b 1/+2", "come b -1/2", "come b 1/-2",
    "come b -1/-2", "come b /2", "come b 1/", "come b /", "come b 1/2/3", "come b 1//2", "come b 1:2", "come b 1.5",
    "come b one", "come b (1,2)", "come b 1_0", "come b 1/1_0", "come b 4/2", "come b 3/3", "come b 0/5", "forget 00",
    "forget +0", "forget -0", "forget 0.0", "forget 0/1",
    "forget 1_0", "forget 01", "forget (0)",
    # Rules that are none.
    "learn box:2", "learn bound:2 box:2", "learn box:2 bound:0", "learn box:2  bound:2", "learn  box:2 bound:2",
    "learn box:2 bound:2 ", " learn box:2 bound:2", "learn box:02 bound:2", "learn box:2 bound:+2",
    "learn box::2 bound:2", "learn :box:2 bound:2", "learn box:2: bound:2", "learn box 2 bound 2",
    "learn box:2:bound:2", "learn box:2 bound:2 from:1",
    "learn box:2 bound:2 from:3:1", "learn box:2 bound:2 beyond:2:1", "learn box:2 bound:2 from:0:1",
    "learn box:2 bound:2 beyond:1:2 from:1:1", "learn box:2 bound:2 from:1:1 from:1:1", "learn box:2 bound:2 From:1:1",
    "learn box:61 bound:2", "learn box:2 bound:1000000000", "learn box:2 bound:1 learn", "learn box:2,bound:2",
    "learn None", "learn box:2\tbound:2", "learn box:2 bound:2 from:1:1:1", "Learn box:2 bound:1 beyond:1:1", "learn 0",
    "learn half",
    # Deeds that are refused.
    "come A 1", "come a 1", "come a 2", "come abcdefghi 1", "come b1 1", "come a: 1", "come b 3", "come b 5/2",
    "come b 1000000001/500000000", "come b 2000000001/999999999", "come b 61", "go b", "go A", "go aa", "go 1",
    "go abcdefghi", "forget 1", "forget -1", "forget 4", "forget 999999999", HALF_LINE, "learn box:2 bound:1",
    "learn box:2 bound:4 from:2 3", "learn box:3 bound:1", "learn box:1 bound:1", "learn box:2 bound:1 from:1:1",
    "learn box:2 bound:1 beyond:0:1", "learn box:2 bound:4 from:1:2 beyond:1:4", "learn box:2 bound:1 from:2:1",
]


class Written(DockChecks):

    def test_each_deed(self):
        dock = Dock(2)
        self.same(journal(dock), "dock 2")
        lines = ["dock 2"]
        for call, told, line in [
                (dock.come, ("a", (1, 1)), "come a 1"), (dock.come, ("abcdefgh", (2, 1)), "come abcdefgh 2"),
                (dock.come, ("c", (11, 10)), "come c 11/10"), (dock.come, ("d", (1, 999999999)), "come d 1/999999999"),
                (dock.learn, (Rule("box 2\nbound 1\nbeyond 1 1"),), HIGH_LINE), (dock.go, ("abcdefgh",), "go abcdefgh"),
                (dock.learn, (Rule(HALF),), HALF_LINE), (dock.forget, (1,), "forget 1"),
                (dock.forget, (0,), "forget 0"), (dock.learn, (Rule("box 2\nbound 7"),), "learn box:2 bound:7")]:
            call(*told)
            lines.append(line)
            self.same(journal(dock), "\n".join(lines))
        for _ in range(10):
            dock.undo()
            lines.pop()
            self.same(journal(dock), "\n".join(lines))
        self.same([journal(Dock(60)), journal(dock=Dock(1))], ["dock 60", "dock 1"])

    def test_rules_are_written_as_they_are(self):
        for text in ("box 2\nbound 9\nbeyond 0 0\nfrom 1 0\nbeyond 1 0\nfrom 2 9",
                     "box 2\nbound 4\nfrom 1 2\nbeyond 1 4"):
            dock = Dock(2)
            dock.learn(Rule(text))
            self.same(journal(dock), "dock 2\nlearn " + text.replace(" ", ":").replace("\n", " "))
            self.same(read_journal(journal(dock)).rules[0].text, text)

    def test_refused_deeds_are_not_written(self):
        dock = Dock(2)
        for call, told in [(dock.come, ("A", (1, 1))), (dock.go, ("a",)), (dock.learn, (Rule(THIRDS),)),
                           (dock.forget, (0,))]:
            self.assertRaises(ReckonError, call, *told)
            self.same(journal(dock), "dock 2")


class Read(DockChecks):

    def check(self, dock, model):
        """Check that the journal is read back as an equal dock, and return it."""
        text = journal(dock)
        self.same(text, model.journal())
        read = read_journal(text)
        self.assertIs(type(read), Dock)
        self.assertEqual(read, dock)
        second = model.copy()
        second.later = []
        self.looks_through(read, second)
        self.raises(NothingToRedo, None, read.redo)
        self.assertEqual(read, read_journal(text=text))
        return read, second

    def test_without_deeds(self):
        for box in (1, 2, 9, 10, 60):
            self.check(Dock(box), Model(box))

    def test_drawn_docks(self):
        chance = Random(651)
        for _ in range(40):
            box = chance.choice((1, 2, 3, 12, 60))
            rules = some_rules(chance, box, 5)
            dock, model = Dock(box), Model(box)
            for _ in range(40):
                self.deed(dock, model, some_deed(chance, box, rules, 0.9))
            read, second = self.check(dock, model)
            # It goes on alike, but for what can be done again.
            for _ in range(12):
                deed = some_deed(chance, box, rules)
                self.deed(read, second, deed)
                if deed[0] != "redo":
                    self.deed(dock, model, deed)
                else:
                    model.later = []
                    dock = read_journal(journal(dock))
                    read, second = dock.copy(), model.copy()
                self.same(journal(read), journal(dock))
            self.looks_through(read, second)

    def test_within_a_block(self):
        dock, model = Dock(2), Model(2)
        with dock.trial():
            self.deed(dock, model, ("come", "a", (1, 1)))
            read, second = self.check(dock, model)
        self.same([journal(dock), journal(read)], ["dock 2", "dock 2\ncome a 1"])
        self.looks_through(read, second)

    def test_many_deeds(self):
        chance = Random(652)
        rules = some_rules(chance, 60, 12)
        dock, model = Dock(60), Model(60)
        while dock.done < 120:
            deed = some_deed(chance, 60, rules)
            if deed[0] not in ("undo", "redo") and model.refusal(deed) is None:
                self.deed(dock, model, deed)
        self.assertGreater(len(journal(dock)), 4000)
        self.check(dock, model)

    def test_written_by_hand(self):
        text = "\n".join(["dock 2", "come a 1", HIGH_LINE, "come b 999999999/500000000", HALF_LINE, "forget 0", "go a"])
        dock = read_journal(text)
        self.same([dock.box, dock.things, [rule.text for rule in dock.rules], dock.done, journal(dock)],
                  [2, (("b", (999999999, 500000000)),), [HALF], 6, text])


class Wrong(DockChecks):

    AHEAD = ["dock 2", "come a 1", HALF_LINE]

    def wrong(self, lines, number):
        """Check that the lines are no journal because of the line of this number."""
        self.raises(BadJournal, number, read_journal, "\n".join(lines))

    def test_no_strings(self):
        for value in any_values():
            self.raises(BadJournal, 1 if type(value) is str else 0, read_journal, value)
        for value in (["dock 2"], ("dock 2",), b"dock 2", ("dock 2", "come a 1"), {"dock": 2}, 2, Dock(2)):
            self.raises(BadJournal, 0, read_journal, value)

    def test_first_lines(self):
        for line in WRONG_HEADS:
            self.wrong([line], 1)
            self.wrong([line, "come a 1"], 1)
            self.wrong([line, "wrong", ""], 1)

    def test_an_empty_line(self):
        self.wrong(["dock 2", ""], 2)
        self.wrong(["dock 2", "", "come a 1"], 2)
        self.wrong([*self.AHEAD, ""], 4)
        self.wrong([*self.AHEAD, "go a", "", ""], 5)
        self.wrong(["", "dock 2"], 1)
        self.wrong(["", ""], 1)

    def test_each_kind_of_wrong_line(self):
        self.assertIs(type(read_journal("\n".join(self.AHEAD))), Dock)
        for line in WRONG_LINES:
            self.wrong([*self.AHEAD, line], 4)
            self.wrong([*self.AHEAD, "come c 1/2", line, "go a"], 5)
            self.wrong([*self.AHEAD, line, "wrong", ""], 4)

    def test_lines_that_only_their_place_makes_wrong(self):
        for lines, number in [(["come a 1", "go a", "go a"], 4), (["go a", "come a 1"], 2), (["forget 0"], 2),
                              ([HALF_LINE, "forget 0", "forget 0"], 4), ([HIGH_LINE, HIGH_LINE], 3),
                              ([HIGH_LINE, "forget 0", HIGH_LINE, HALF_LINE, HIGH_LINE], 6),
                              ([HALF_LINE, HIGH_LINE], 3), ([HIGH_LINE, HALF_LINE, "forget 1", "forget 1"], 5),
                              ([*[f"come {name} 1" for name in "abcdefghijklm"]], 14),
                              ([*[f"come {name} 1" for name in "abcdefghijkl"], "go a", "come m 1", "come a 1"], 16)]:
            self.wrong(["dock 2", *lines], number)
            self.assertIs(type(read_journal("\n".join(["dock 2", *lines][:number - 1]))), Dock)

    def test_four_rules(self):
        lines = [f"learn box:60 bound:{60 // n} from:{n}:1" for n in (60, 30, 20, 15, 12)]
        self.assertEqual(len(read_journal("\n".join(["dock 60", *lines[:4]])).rules), 4)
        self.wrong(["dock 60", *lines], 6)
        self.assertEqual(len(read_journal("\n".join(["dock 60", *lines[:4], "forget 2", lines[4]])).rules), 4)

    def test_great_numbers(self):
        # Whatever is so great is no more than refused.
        for digits in (9, 10, 40, 3000):
            great = "9" * digits
            for line in (f"come b {great}", f"come b {great}/2", f"forget {great}", f"forget -{great}",
                         f"learn box:2 bound:{great}0", f"learn box:{great} bound:1", f"go {great}", f"come {great} 1"):
                self.wrong([*self.AHEAD, line], 4)
            self.wrong([f"dock {great}"], 1)
        dock = read_journal("\n".join([*self.AHEAD, "come b 10000000001/10000000000"]))
        self.same([dock.size("b"), journal(dock).split("\n")[3]],
                  [(10000000001, 10000000000), "come b 10000000001/10000000000"])

    def test_drawn_journals_with_a_wrong_line(self):
        chance = Random(661)
        for _ in range(60):
            box = chance.choice((1, 2, 5))
            rules = some_rules(chance, box, 5)
            dock, model = Dock(box), Model(box)
            while dock.done < 10:
                deed = some_deed(chance, box, rules)
                self.deed(dock, model, deed)
            lines = journal(dock).split("\n")
            at = chance.randint(0, 10)
            self.wrong([*lines[:at], "wrong", *lines[at:]], at + 1)
            self.wrong([*lines[:at], lines[at] + " ", *lines[at + 1:]], at + 1)
            ahead = read_journal("\n".join(lines[:max(at, 1)]))
            model = Model(box)
            model.deeds = list(self.deeds_of(ahead, lines[1:max(at, 1)]))
            deed = some_deed(chance, box, rules, 0)
            refusal = model.refusal(deed)
            if at > 0 and deed[0] not in ("undo", "redo") and refusal is not None and has_line(deed):
                self.wrong([*lines[:at], line_of(deed), *lines[at:]], at + 1)

    def deeds_of(self, dock, lines):
        """Return the deeds that the lines, which are right, tell."""
        taken = dock.copy()
        found = []
        for line in reversed(lines):
            words = line.split(" ")
            if words[0] == "come":
                found.append(("come", words[1], taken.size(words[1])))
            elif words[0] == "learn":
                found.append(("learn", taken.rules[-1]))
            else:
                found.append((words[0], words[1] if words[0] == "go" else int(words[1])))
            taken.undo()
        return found[::-1]

    def test_nothing_is_changed(self):
        dock = read_journal("\n".join(self.AHEAD))
        value = ["dock 2"]
        self.raises(BadJournal, 0, read_journal, value)
        self.same([journal(dock), value], ["\n".join(self.AHEAD), ["dock 2"]])


if __name__ == "__main__":
    unittest.main()
