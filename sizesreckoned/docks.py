"""Docks, at which things come and go, and rules are learned."""

from sizesreckoned.beside import others_of, within
from sizesreckoned.errors import (BadBox, BadName, BadSize, Full, Here, Known, NoRule, NoTrial, NotHere, NothingToRedo,
                                  NothingToUndo, OtherBox)
from sizesreckoned.rules import WIDEST, Rule
from sizesreckoned.sound import sound_table
from sizesreckoned.kinds import added, is_name, is_size_up_to, is_whole_up_to, size_text

MOST_THINGS = 12
MOST_RULES = 4


def number_as_good(rules, rule):
    """Return the number of the first of the rules that never tells fewer boxes than this rule, None if none is so."""
    for number, known in enumerate(rules):
        if within(rule, known) == ("within",):
            return number
    return None


def boxes_told(rule, things):
    """Return how many boxes the rule tells of the things."""
    return -(-sum([rule.worth(size) for _, size in things]) // rule.bound)


def do_deed(dock, line, things, rules):
    """Do the deed that the line writes, which leads to these things and rules."""
    # What was taken back ahead of a deed cannot be done again behind it.
    del dock.lines[dock.done:]
    del dock.stands[dock.done + 1:]
    dock.lines.append(line)
    dock.stands.append((things, rules))
    stand_behind(dock, dock.done + 1)


def stand_behind(dock, done):
    """Let just so many of the deeds stand."""
    dock.things, dock.rules = dock.stands[done]
    dock.done = done


def standing_lines(dock):
    """Return the lines of the deeds that stand."""
    return dock.lines[:dock.done]


class Trial:
    """A block: it keeps what a dock was when it was entered, which the dock is again behind it if it is not kept."""

    def __init__(self, dock):
        self.dock = dock
        # None until the block is kept, since `__exit__` asks of attributes only whether they are None.
        self.kept = None
        self.outer = None
        self.things = ()
        self.rules = ()
        self.done = 0
        self.lines = []
        self.stands = []

    def __enter__(self):
        dock = self.dock
        self.outer = dock.block
        self.things = dock.things
        self.rules = dock.rules
        self.done = dock.done
        self.lines = list(dock.lines)
        self.stands = list(dock.stands)
        dock.block = self
        return dock

    def __exit__(self, kind, value, trace):
        dock = self.dock
        if kind is not None or self.kept is None:
            dock.things = self.things
            dock.rules = self.rules
            dock.done = self.done
            dock.lines = self.lines
            dock.stands = self.stands
        dock.block = self.outer


class Dock:
    """A dock; all its deeds, also those taken back, have a line each in `lines`.

    In `stands` are the things and rules as they are when none, one, two and so on of the deeds stand; `block` is
    the innermost one that was entered, if there is one.
    """

    def __init__(self, box):
        if not is_whole_up_to(box, 1, WIDEST):
            raise BadBox(box)
        self.box = box
        self.things = ()
        self.rules = ()
        self.done = 0
        self.lines = []
        self.stands = [((), ())]
        self.block = None

    def __eq__(self, other):
        return isinstance(other, Dock) and self.box == other.box and standing_lines(self) == standing_lines(other)

    def __len__(self):
        return len(self.things)

    def __contains__(self, value):
        return isinstance(value, str) and value in [name for name, _ in self.things]

    def told(self):
        """Return how many boxes are told, and the number of the rule that tells so many, None for what is filled."""
        over, under = added([size for _, size in self.things])
        number = -(-over // (under * self.box))
        by = None
        for at, rule in enumerate(self.rules):
            boxes = boxes_told(rule, self.things)
            if boxes > number:
                number = boxes
                by = at
        return (number, by)

    def size(self, name):
        """Return the size of the thing of this name."""
        if name not in self:
            raise NotHere(name)
        return dict(self.things)[name]

    def why(self, number):
        """Return what each thing is reckoned by the rule of this number."""
        if not is_whole_up_to(number, 0, len(self.rules) - 1):
            raise NoRule(number)
        rule = self.rules[number]
        return tuple([(name, rule.worth(size)) for name, size in self.things])

    def come(self, name, size):
        """Let a thing of this name and size be there."""
        if not is_name(name):
            raise BadName(name)
        if name in self:
            raise Here(name)
        if not is_size_up_to(size, self.box):
            raise BadSize(size)
        if len(self.things) == MOST_THINGS:
            raise Full(MOST_THINGS)
        things = tuple(sorted([*self.things, (name, size)]))
        do_deed(self, f"come {name} {size_text(size)}", things, self.rules)

    def go(self, name):
        """Let the thing of this name be there no more."""
        if name not in self:
            raise NotHere(name)
        things = tuple([thing for thing in self.things if thing[0] != name])
        do_deed(self, f"go {name}", things, self.rules)

    def learn(self, rule):
        """Let the rule be known, behind the others."""
        if not isinstance(rule, Rule) or rule.box != self.box:
            raise OtherBox(rule)
        # It is called for what it raises where the rule is broken.
        sound_table(rule)
        number = number_as_good(self.rules, rule)
        if number is not None:
            raise Known(number)
        if len(self.rules) == MOST_RULES:
            raise Full(MOST_RULES)
        words = rule.text.replace(" ", ":").replace("\n", " ")
        do_deed(self, f"learn {words}", self.things, (*self.rules, rule))

    def forget(self, number):
        """Let the rule of this number be known no more."""
        if not is_whole_up_to(number, 0, len(self.rules) - 1):
            raise NoRule(number)
        do_deed(self, f"forget {number}", self.things, tuple(others_of(self.rules, number)))

    def undo(self):
        """Take the last deed back that stands."""
        if self.done == 0:
            raise NothingToUndo(None)
        stand_behind(self, self.done - 1)

    def redo(self):
        """Do the deed again that was taken back last."""
        if self.done == len(self.lines):
            raise NothingToRedo(None)
        stand_behind(self, self.done + 1)

    def trial(self):
        """Return a block to be entered, behind which the dock is as ahead of it unless it is kept."""
        return Trial(self)

    def keep(self):
        """Let the innermost block be kept."""
        block = self.block
        if block is None:
            raise NoTrial(None)
        block.kept = True

    def tried(self, look, *, keep=False):
        """Call look with the dock within a block, and return what it returned."""
        with self.trial() as held:
            if keep is True:
                self.keep()
            return look(held)

    def copy(self):
        """Return an independent dock that is alike, outside of all blocks."""
        other = Dock(self.box)
        other.lines = list(self.lines)
        other.stands = list(self.stands)
        stand_behind(other, self.done)
        return other
