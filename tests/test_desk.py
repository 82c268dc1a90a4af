"""Section 13: desks, which lines they understand, what they answer, and what refuses a line."""

import unittest
from random import Random

from sizesreckoned.desk import Desk
from sizesreckoned.docks import Dock
from sizesreckoned.errors import (BadJournal, BadLine, BadName, BadSize, Broken, Full, Here, Known, NoRule,
                                  NothingToRedo, NothingToUndo, NotHere, OtherBox)
from sizesreckoned.journals import journal
from sizesreckoned.rules import Rule
from tests.checking import HALF, THIRDS, any_values
from tests.docking import ANY_LOT, DockChecks, Model, has_line, line_of, some_deed, some_rules, written
from tests.reckoning import lot_breaks
from tests.test_journals import HALF_LINE, HIGH_LINE, WRONG_HEADS, WRONG_LINES

# Those of WRONG_LINES that a desk understands.
OTHER_LINES = ("undo", "redo", "told", "things", "why 0")


def refused_lines():
    """Return (line, error, its value) that the dock of full_desk refuses."""
    return [
        ("come A 1", BadName, "A"), ("come 1 1", BadName, "1"), ("come abcdefghi 3", BadName, "abcdefghi"),
        ("come a:b 1", BadName, "a:b"), ("come b! 1/2", BadName, "b!"), ("come - 9", BadName, "-"),
        ("come a 1", Here, "a"), ("come a 5", Here, "a"), ("come z 3", BadSize, (3, 1)),
        ("come z 5/2", BadSize, (5, 2)), ("come z 1000000001/500000000", BadSize, (1000000001, 500000000)),
        ("come z 999999999", BadSize, (999999999, 1)),
        ("come z 1", Full, 12), ("go z", NotHere, "z"), ("go A", NotHere, "A"), ("go 0", NotHere, "0"),
        ("go a:1", NotHere, "a:1"), ("forget 2", NoRule, 2), ("forget -1", NoRule, -1),
        ("forget 999999999", NoRule, 999999999), ("why 2", NoRule, 2),
        ("why -1", NoRule, -1), ("why -10", NoRule, -10), ("why 999999999", NoRule, 999999999),
        ("learn box:3 bound:1", OtherBox, Rule("box 3\nbound 1")), ("learn box:60 bound:1 from:1:9", OtherBox,
                                                                   Rule("box 60\nbound 1\nfrom 1 9")),
        (HALF_LINE, Known, 1), (HIGH_LINE, Known, 0), ("learn box:2 bound:7", Known, 0),
    ]


def full_desk():
    """Return a desk with twelve things and two rules."""
    return Desk("\n".join(["dock 2", *[f"come {name} {1 + number}/12" for number, name in enumerate("abcdefghijkl")
                                       if number in (0, 4, 6, 10)],
                           *[f"come {name} 1" for name in "bcdfhijl"], HIGH_LINE, HALF_LINE]))


class Made(DockChecks):

    def test_the_dock(self):
        for text in ("dock 2", "dock 60\ncome a 59/2", f"dock 2\n{HALF_LINE}\ncome a 1/2\nforget 0"):
            for desk in (Desk(text), Desk(text=text)):
                self.assertIs(type(desk.dock), Dock)
                self.assertIn("dock", vars(desk))
                self.same(journal(desk.dock), text)
                self.raises(NothingToRedo, None, desk.say, "redo")

    def test_no_journals(self):
        for value in any_values():
            self.raises(BadJournal, 1 if type(value) is str else 0, Desk, value)
        for line in WRONG_HEADS:
            self.raises(BadJournal, 1, Desk, line)
        for line in WRONG_LINES:
            self.raises(BadJournal, 4, Desk, "\n".join(["dock 2", "come a 1", HALF_LINE, line]))


class Answers(DockChecks):

    def test_each_line(self):
        desk = Desk("dock 2")
        for line, answer in [
                ("told", "0 -"), ("things", ""), ("come c 11/10", "ok"), ("come a 1", "ok"), ("come b 11/10", "ok"),
                ("told", "2 -"), ("things", "a:1 b:11/10 c:11/10"), (HIGH_LINE, "ok"), ("told", "2 -"),
                ("why 0", "a:0 b:1 c:1"), (HALF_LINE, "ok"), ("told", "3 1"), ("why 1", "a:1 b:2 c:2"),
                ("forget 0", "ok"), ("told", "3 0"), ("why 0", "a:1 b:2 c:2"), ("undo", "ok"), ("told", "3 1"),
                ("redo", "ok"), ("told", "3 0"), ("go a", "ok"), ("things", "b:11/10 c:11/10"), ("told", "2 -"),
                ("go b", "ok"), ("go c", "ok"), ("things", ""),
                ("why 0", ""), ("told", "0 -"), ("undo", "ok"), ("things", "c:11/10"), ("come x 1/999999999", "ok"),
                ("things", "c:11/10 x:1/999999999"), ("come d 2", "ok"), ("things", "c:11/10 d:2 x:1/999999999"),
                ("why 0", "c:2 d:2 x:0")]:
            self.same(desk.say(line), answer)
        self.same(desk.say(line="told"), "2 -")
        self.same(journal(desk.dock).split("\n")[1:4], ["come c 11/10", "come a 1", "come b 11/10"])

    def test_the_dock_can_be_gone_on_with(self):
        desk = Desk("dock 2")
        desk.dock.come("a", (1, 1))
        self.same([desk.say("things"), desk.say("go a"), desk.dock.things], ["a:1", "ok", ()])
        with desk.dock.trial():
            desk.say("undo")
            self.same(desk.say("told"), "1 -")
        self.same([desk.say("told"), desk.dock.done], ["0 -", 2])

    def test_names_of_lines_as_names_of_things(self):
        desk = Desk("dock 2")
        for name in ("told", "undo", "come", "why", "learn"):
            self.same(desk.say(f"come {name} 1"), "ok")
        self.same(desk.say("things"), "come:1 learn:1 told:1 undo:1 why:1")
        self.raises(NotHere, "go", desk.say, "go go")
        self.same([desk.say("go why"), desk.say("told")], ["ok", "2 -"])

    def test_drawn_lines(self):
        chance = Random(671)
        for _ in range(30):
            box = chance.choice((1, 2, 3, 12, 60))
            rules = some_rules(chance, box, 5)
            desk, model = Desk(f"dock {box}"), Model(box)
            for _ in range(40):
                self.say(desk, model, some_deed(chance, box, rules, 0.85))
                things, texts = model.state()
                number, by = model.told()
                self.same(desk.say("told"), f"{number} {'-' if by is None else by}")
                self.same(desk.say("things"), " ".join(f"{name}:{written(things[name])}" for name in sorted(things)))
                for at in range(len(texts)):
                    self.same(desk.say(f"why {at}"), " ".join(f"{name}:{worth}" for name, worth in model.why(at)))
            self.looks_through(desk.dock, model)

    def say(self, desk, model, deed):
        """Say the line of the deed if it has one, and check the answer or how it is refused."""
        if deed[0] in ("undo", "redo"):
            line = deed[0]
        elif has_line(deed):
            line = line_of(deed)
        else:
            return
        refusal = model.refusal(deed)
        if refusal is None:
            self.same(desk.say(line), "ok")
            model.do(deed)
        elif refusal[1] is ANY_LOT:
            with self.assertRaises(Broken) as caught:
                desk.say(line)
            self.assertTrue(lot_breaks(deed[1].text, caught.exception.value))
        elif refusal[0] is OtherBox:
            with self.assertRaises(OtherBox) as caught:
                desk.say(line)
            self.same(caught.exception.value.text, refusal[1].text)
        else:
            self.raises(*refusal, desk.say, line)


class Refused(DockChecks):

    def test_errors_of_the_dock(self):
        desk = full_desk()
        before = journal(desk.dock)
        desk.say("go a")
        desk.say("undo")
        for line, error, value in refused_lines():
            self.raises(error, value, desk.say, line)
            self.same(journal(desk.dock), before)
        self.same(desk.say("redo"), "ok")
        self.assertIs("a" in desk.dock, False)
        self.raises(NothingToRedo, None, desk.say, "redo")

    def test_nothing_to_undo(self):
        desk = Desk("dock 2")
        self.raises(NothingToUndo, None, desk.say, "undo")
        self.raises(NothingToRedo, None, desk.say, "redo")
        self.raises(NoRule, 0, desk.say, "why 0")
        self.raises(NoRule, 0, desk.say, "forget 0")

    def test_broken_rules(self):
        desk = Desk("dock 3")
        for text in (THIRDS, "box 3\nbound 1\nbeyond 0 1"):
            with self.assertRaises(Broken) as caught:
                desk.say("learn " + text.replace(" ", ":").replace("\n", " "))
            self.assertTrue(lot_breaks(text, caught.exception.value))
        self.same(desk.dock.done, 0)

    def test_full_of_rules(self):
        desk = Desk("dock 60")
        for n in (60, 30, 20, 15):
            self.same(desk.say(f"learn box:60 bound:{60 // n} from:{n}:1"), "ok")
        self.raises(Full, 4, desk.say, "learn box:60 bound:5 from:12:1")
        self.raises(Known, 2, desk.say, "learn box:60 bound:3 from:20:1")


class Wrong(DockChecks):

    def wrong(self, value):
        """Check that no desk understands the value."""
        for desk in (self.desk, self.empty):
            before = journal(desk.dock)
            self.raises(BadLine, value, desk.say, value)
            self.same(journal(desk.dock), before)

    def setUp(self):
        self.desk = full_desk()
        self.empty = Desk("dock 2")

    def test_values_of_any_kind(self):
        for value in any_values():
            self.wrong(value)
        for line in ("told", "undo", "come a 1", HALF_LINE):
            for value in ([line], (line,), {line: line}, line.encode(), (line, line), line.split(" ")):
                self.wrong(value)

    def test_line_feeds(self):
        for line in ("told", "undo", "redo", "things", "why 0", "come z 1", "go a", "forget 0", HALF_LINE, ""):
            for value in (line + "\n", "\n" + line, line + "\ntold", line.replace(" ", "\n") + "\n", line + "\n\n"):
                self.wrong(value)
        self.wrong("come\na\n1")
        self.wrong("come a\n1 1")
        self.wrong("learn box:2 bound:2\nfrom:1:1")
        self.wrong("learn box:2\nbound:2")
        self.wrong("go a\nb")

    def test_words_more_or_less(self):
        for line in ("told", "undo", "redo", "things", "why 0", "come z 1", "go a", "forget 0", "come a 1", "go zz",
                     "why 7"):
            for value in (line + " ", " " + line, line + " 1", line + " a", line + " 0", line + "  ", line + " " + line,
                          line.replace(" ", "  ", 1) if " " in line else line * 2, line.upper(), line.title(),
                          "a" + line):
                self.wrong(value)
        for value in ("come", "come a", "go", "forget", "why", "learn", "come ", "go ", "why ", "learn ", "", " ", "  ",
                      "keep", "trial", "tried", "copy", "size a", "box", "things 1", "told 0", "undo 1", "redo all",
                      "why a", "learn 0", "done", "rules", "dock 2", "journal", "ok", "quit", "help", "come:a:1",
                      "told,", "#"):
            self.wrong(value)

    def test_numbers_that_are_not_written_so(self):
        for word in ("00", "01", "+0", "+1", "-0", "-01", "--1", "-", "+", "0.0", "1.", "0/1", "1/1", "0x0", "1_0", "O",
                     "none", "-a", "1e0", "'0'", "0,", "a0", "0a", "(0)", "- 1", "1-"):
            self.wrong(f"why {word}")
            self.wrong(f"forget {word}")

    def test_sizes_that_are_not_written_so(self):
        for word in ("0", "-1", "01", "+1", "1/1", "3/1", "2/4", "2/2", "4/2", "1/0", "0/1", "0/2", "1/02", "01/2",
                     "+1/2", "1/+2", "-1/2", "1/-2", "-1/-2", "/2", "1/", "/", "//", "1/2/3", "1//2", "1:2", "1.5",
                     "one", "(1,2)", "1_0", "1/1_0", "999999998/2",
                     "0/0", "00", "-0", "10/100", "-", "1-", "a/b", "1/a", "a/2", "999999999/3"):
            self.wrong(f"come z {word}")
            # A line is wrong ahead of all that the dock refuses.
            for name in ("a", "A", "abcdefghi", "1", "!"):
                self.wrong(f"come {name} {word}")

    def test_rules_that_are_none(self):
        for line in WRONG_LINES:
            if line.strip().lower().startswith("learn"):
                rule = line not in ("learn box:2 bound:1", "learn box:3 bound:1", "learn box:1 bound:1", HALF_LINE,
                                    "learn box:2 bound:1 from:1:1", "learn box:2 bound:1 beyond:0:1",
                                    "learn box:2 bound:1 from:2:1", "learn box:2 bound:4 from:1:2 beyond:1:4")
                if rule:
                    self.wrong(line)
        for words in ("box:3 bound:0", "box:61 bound:1", "box:3", "box:3 bound:1 from:4:1", HALF.replace("\n", " "),
                      "learn " + HALF_LINE, "box:2 bound:2 beyond:1:1 from:1:1", "box:2 bound:2 from:1:01",
                      "bound:2 box:2", "box:2 bound:2 1", "Box:2 bound:2"):
            self.wrong("learn " + words)

    def test_lines_of_no_form(self):
        refused = [line for line in WRONG_LINES if line in OTHER_LINES]
        self.same(sorted(refused), sorted(OTHER_LINES))
        at = WRONG_LINES.index("come A 1")
        for line in WRONG_LINES[:at]:
            if line not in OTHER_LINES:
                self.wrong(line)

    def test_great_numbers(self):
        for digits in (9, 10, 40, 3900, 5000):
            great = "9" * digits
            number = 10 ** digits - 1
            self.raises(NoRule, number, self.desk.say, f"why {great}")
            self.raises(NoRule, -number, self.desk.say, f"why -{great}")
            self.raises(NoRule, number, self.desk.say, f"forget {great}")
            self.wrong(f"why 0{great}")
            self.raises(BadSize, (number, 1), self.desk.say, f"come z {great}")
            self.raises(BadSize, (number, 2), self.desk.say, f"come z {great}/2")
            self.wrong(f"come z {great}/3")
            self.raises(BadName, great, self.desk.say, f"come {great} 1")
            self.raises(NotHere, great, self.desk.say, f"go {great}")
            self.wrong(f"learn box:2 bound:{great}9")
            self.wrong(great)

    def test_a_call_that_raises_changes_nothing(self):
        self.desk.say("go b")
        self.desk.say("undo")
        for value in ("come", None, "come z 01", "why x"):
            self.wrong(value)
        self.same(self.desk.say("redo"), "ok")


if __name__ == "__main__":
    unittest.main()
