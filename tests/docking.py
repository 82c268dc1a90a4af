"""What docks are to tell, worked out anew from all deeds that stand; and deeds by chance."""

from fractions import Fraction
from functools import lru_cache

from sizesreckoned.docks import Dock
from sizesreckoned.errors import (BadName, BadSize, Broken, Full, Here, Known, NoRule, NothingToRedo, NothingToUndo,
                                  NotHere, OtherBox)
from sizesreckoned.journals import journal
from sizesreckoned.rules import Rule
from tests.checking import Checks
from tests.reckoning import (crumbs, halves, least_table_that_holds, lot_breaks, parts, share_of, shortest, some_size,
                             text_of, worth)

LETTERS = "abcdefghijklmnopqrstuvwxyz"
ANY_LOT = object()


@lru_cache(maxsize=None)
def is_right(text):
    """Tell whether a rule is right for all lots."""
    return crumbs(text) == 0 and least_table_that_holds(text)[-1] <= parts(text)[1]


@lru_cache(maxsize=None)
def covers(one, other):
    """Tell whether one never tells fewer boxes than other."""
    return all(share_of(one, size) >= share_of(other, size) for size in halves(parts(one)[0]))


def is_size_for(box, value):
    """Tell whether the value is a size no greater than the box."""
    if type(value) is not tuple or len(value) != 2 or any(type(part) is not int for part in value):
        return False
    if value[0] < 1 or value[1] < 1:
        return False
    size = Fraction(*value)
    return (size.numerator, size.denominator) == value and size <= box


def written(size):
    """Return how a size is written."""
    return str(Fraction(*size))


def line_of(deed):
    """Return the line of a deed in a journal."""
    if deed[0] == "come":
        return f"come {deed[1]} {written(deed[2])}"
    if deed[0] == "learn":
        return " ".join(["learn", *[line.replace(" ", ":") for line in deed[1].text.split("\n")]])
    return f"{deed[0]} {deed[1]}"


def has_line(deed):
    """Tell whether the deed can be written as a line, though it may be refused."""
    if deed[0] == "learn":
        return type(deed[1]) is Rule
    if deed[0] == "forget":
        return type(deed[1]) is int
    if type(deed[1]) is not str or deed[1] == "":
        return False
    return deed[0] == "go" or type(deed[2]) is tuple and deed[2] not in ((0, 1), (2, 2))


class Model:
    """The deeds of a dock: those that stand, and those that can be done again, the next one last."""

    def __init__(self, box):
        self.box = box
        self.deeds = []
        self.later = []

    def state(self):
        """Return (things, texts of rules) that all deeds lead to."""
        things, texts = {}, []
        for deed in self.deeds:
            if deed[0] == "come":
                things[deed[1]] = deed[2]
            elif deed[0] == "go":
                del things[deed[1]]
            elif deed[0] == "learn":
                texts.append(deed[1].text)
            else:
                del texts[deed[1]]
        return things, texts

    def refusal(self, deed):
        """Return (error, its value) that refuses the deed, None if it is done."""
        things, texts = self.state()
        word, told = deed[0], deed[1:]
        if word == "undo":
            return None if self.deeds else (NothingToUndo, None)
        if word == "redo":
            return None if self.later else (NothingToRedo, None)
        if word == "come":
            return self.refused_thing(things, *told)
        if word == "go":
            return None if type(told[0]) is str and told[0] in things else (NotHere, told[0])
        if word == "learn":
            return self.refused_rule(texts, told[0])
        return None if type(told[0]) is int and 0 <= told[0] < len(texts) else (NoRule, told[0])

    def refused_thing(self, things, name, size):
        """Return what refuses that this thing comes."""
        if type(name) is not str or not 1 <= len(name) <= 8 or any(sign not in LETTERS for sign in name):
            return BadName, name
        if name in things:
            return Here, name
        if not is_size_for(self.box, size):
            return BadSize, size
        return (Full, 12) if len(things) == 12 else None

    def refused_rule(self, texts, rule):
        """Return what refuses that this rule is learned."""
        if type(rule) is not Rule or parts(rule.text)[0] != self.box:
            return OtherBox, rule
        if not is_right(rule.text):
            return Broken, ANY_LOT
        for number, text in enumerate(texts):
            if covers(text, rule.text):
                return Known, number
        return (Full, 4) if len(texts) == 4 else None

    def do(self, deed):
        """Do the deed, which is not refused."""
        if deed[0] == "undo":
            self.later.append(self.deeds.pop())
        elif deed[0] == "redo":
            self.deeds.append(self.later.pop())
        else:
            self.deeds.append(deed)
            self.later = []

    def copy(self):
        """Return another one that is alike."""
        other = Model(self.box)
        other.deeds, other.later = list(self.deeds), list(self.later)
        return other

    def told(self):
        """Return what the dock is to tell."""
        things, texts = self.state()
        found = (-(-sum(Fraction(*size) for size in things.values()) // self.box), None)
        for number, text in enumerate(texts):
            _, bound, steps = parts(text)
            boxes = -(-sum(worth(steps, Fraction(*size)) for size in things.values()) // bound)
            if boxes > found[0]:
                found = (boxes, number)
        return found

    def why(self, number):
        """Return what the dock is to tell of each thing by the rule of this number."""
        things, texts = self.state()
        return tuple((name, worth(parts(texts[number])[2], Fraction(*things[name]))) for name in sorted(things))

    def journal(self):
        """Return the journal that is to be written."""
        return "\n".join([f"dock {self.box}", *[line_of(deed) for deed in self.deeds]])


class DockChecks(Checks):
    """Tests that look at all that docks tell."""

    def looks(self, dock, model):
        """Check all that the dock tells but for what can be done again."""
        things, texts = model.state()
        self.assertIs(type(dock), Dock)
        self.same(dock.box, model.box)
        self.same(dock.things, tuple((name, things[name]) for name in sorted(things)))
        self.assertIs(type(dock.rules), tuple)
        self.assertTrue(all(type(rule) is Rule for rule in dock.rules))
        self.same([rule.text for rule in dock.rules], texts)
        self.same([dock.done, len(dock)], [len(model.deeds), len(things)])
        self.same(dock.told(), model.told())
        for number in range(len(texts)):
            self.same(dock.why(number), model.why(number))
        for name in things:
            self.assertIs(name in dock, True)
            self.same(dock.size(name), things[name])
        for name in ("zzz", *[deed[1] for deed in model.deeds if deed[0] == "go"]):
            self.assertIs(name in dock, name in things)
        self.same(journal(dock), model.journal())

    def looks_through(self, dock, model):
        """Check all that the dock tells, as it is and as far as can be undone and done again; it is left as it was."""
        self.looks(dock, model)
        seen = model.copy()
        for word in ("redo", "undo", "redo"):
            while seen.refusal((word,)) is None:
                getattr(dock, word)()
                seen.do((word,))
                self.same([dock.done, journal(dock)], [len(seen.deeds), seen.journal()])
            self.raises(*seen.refusal((word,)), getattr(dock, word))
            self.looks(dock, seen)
        for _ in model.later:
            dock.undo()
        self.looks(dock, model)

    def deed(self, dock, model, deed):
        """Do the deed, or check how it is refused; tell whether it was done."""
        refusal = model.refusal(deed)
        call = getattr(dock, deed[0])
        if refusal is None:
            self.assertIsNone(call(*deed[1:]))
            model.do(deed)
            return True
        error, value = refusal
        before = [dock.things, dock.rules, dock.done, journal(dock)]
        if value is ANY_LOT:
            with self.assertRaises(error) as caught:
                call(*deed[1:])
            self.assertTrue(lot_breaks(deed[1].text, caught.exception.value))
        else:
            self.raises(error, value, call, *deed[1:])
        self.same([dock.things, dock.rules, dock.done, journal(dock)], before)
        return False


def some_rules(chance, box, many):
    """Return rules of the box by chance, most of them sound, and some of them with many steps."""
    found = []
    while len(found) < many:
        often, rising = chance.choice((0.05, 0.3, 1)), chance.random() < 0.7
        worths = [0]
        for place in range(2, 2 * box + 1):
            here = chance.randint(0, 5) + (3 * place if rising else 0)
            worths.append(here if chance.random() < often else worths[-1])
        if chance.random() < 0.05:
            worths[0] = 1
        bound = max(1, least_table_that_holds(text_of(box, 1, worths))[-1] + chance.choice((-1, 0, 0, 0, 0, 1, 7)))
        found.append(Rule(chance.choice((text_of, shortest))(box, bound, worths)))
    return found


def some_deed(chance, box, rules, calm=0.8):
    """Return a deed by chance; a calm one is seldom refused."""
    word = chance.choice(("come", "come", "come", "come", "go", "go", "learn", "learn", "forget", "undo", "undo",
                          "redo"))
    right = chance.random() < calm
    name = chance.choice(LETTERS[:15]) * chance.choice((1, 1, 1, 8))
    if word == "come":
        size = some_size(chance, box)
        if not right:
            name = chance.choice(("", "A", "aB", "a1", "abcdefghi", name, name, None))
            size = chance.choice(((0, 1), (box + 1, 1), (box * 7 + 1, 7), (2, 2), [1, 1], (1, 1), None))
        return ("come", name, size)
    if word == "go":
        return ("go", name if right else chance.choice(("", "A", None, 0, "abcdefghi", "zz")))
    if word == "learn":
        return ("learn", chance.choice(rules) if right else chance.choice((None, "box",
                                                                           Rule(f"box {box % 60 + 1}\nbound 1"))))
    if word == "forget":
        return ("forget", chance.randint(0, 3) if right else chance.choice((-1, 4, True, None, "0")))
    return (word,)
