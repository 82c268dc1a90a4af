"""Rules: how they are written, and what they reckon."""

from sizesreckoned.errors import BadLot, BadMany, BadRule, BadSize, BadWorth, Great, NoStep
from sizesreckoned.kinds import added, is_lot, is_lot_up_to, is_size_up_to, is_whole, is_whole_up_to, lowest

WIDEST = 60
HIGHEST = 999999999
MOST_TIMES = 99


def filled(lot):
    """Return the number that the lot fills."""
    if not is_lot(lot):
        raise BadLot(lot)
    return added([(size[0] * many, size[1]) for size, many in lot])


def whole_of(word, low, high):
    """Return the integer from low to high that the word writes, None if it writes none."""
    # A longer word is too great in any case, and may be too long for int.
    if len(word) > 9 or not (word.isascii() and word.isdigit()):
        return None
    number = int(word)
    if str(number) != word or not low <= number <= high:
        return None
    return number


def whole_behind(word, line, high):
    """Return the integer from 1 on of a line like `box 3`, None if it is no such line of this word."""
    words = line.split(" ")
    if len(words) != 2 or words[0] != word:
        return None
    return whole_of(words[1], 1, high)


def head_of(lines, at, word, high):
    """Return the integer of the line like `box 3` that is to stand there."""
    number = whole_behind(word, lines[at], high) if at < len(lines) else None
    if number is None:
        raise BadRule(at + 1)
    return number


def step_of(line, box):
    """Return the step that the line writes, None if it writes none."""
    words = line.split(" ")
    if len(words) != 3 or words[0] not in ("from", "beyond"):
        return None
    first = 1 if words[0] == "from" else 0
    start = whole_of(words[1], first, first + box - 1)
    worth = whole_of(words[2], 0, HIGHEST)
    if start is None or worth is None:
        return None
    return (words[0], start, worth)


def steps_of(lines, box):
    """Return the steps that the lines behind the first two write."""
    steps = []
    last = 0
    for at in range(2, len(lines)):
        step = step_of(lines[at], box)
        if step is None or place_of(step) <= last:
            raise BadRule(at + 1)
        last = place_of(step)
        steps.append(step)
    return tuple(steps)


def place_of(step):
    """Return the space at which the step stands."""
    return 2 * step[1] + (1 if step[0] == "beyond" else 0)


def space_of(size):
    """Return the space in which the size is."""
    return 2 * (size[0] // size[1]) + (1 if size[1] > 1 else 0)


def size_in(space):
    """Return a size in the space."""
    return lowest(space, 2)


def worths_of(steps, box):
    """Return for each space of the box the worth of all sizes in it, 0 for the space 0."""
    worths = []
    worth = 0
    for step in steps:
        worths.extend([worth] * (place_of(step) - len(worths)))
        worth = step[2]
    worths.extend([worth] * (2 * box + 1 - len(worths)))
    return tuple(worths)


def is_step(value):
    """Tell whether the value looks like a step."""
    if not isinstance(value, tuple) or len(value) != 3:
        return False
    return isinstance(value[0], str) and is_whole(value[1], 0) and is_whole(value[2], 0)


def rule_text(box, bound, steps):
    """Return the text of the rule of these steps."""
    lines = [f"box {box}", f"bound {bound}"]
    for word, start, worth in steps:
        lines.append(f"{word} {start} {worth}")
    return "\n".join(lines)


def with_worths(rule, changes):
    """Return the rule in which steps have other worths, told as (number of the step, worth)."""
    steps = list(rule.steps)
    for number, worth in changes:
        steps[number] = (steps[number][0], steps[number][1], worth)
    return Rule(rule_text(rule.box, rule.bound, steps))


class Rule:
    """A rule, as its text tells it; its worths are those of the sizes in each space."""

    def __init__(self, text):
        if not isinstance(text, str):
            raise BadRule(0)
        lines = text.split("\n")
        self.text = text
        self.box = head_of(lines, 0, "box", WIDEST)
        self.bound = head_of(lines, 1, "bound", HIGHEST)
        self.steps = steps_of(lines, self.box)
        self.worths = worths_of(self.steps, self.box)

    def __eq__(self, other):
        return isinstance(other, Rule) and self.text == other.text

    def __len__(self):
        return len(self.steps)

    def __contains__(self, value):
        # Without the first test (from, True, 1) would pass for (from, 1, 1).
        return is_step(value) and value in self.steps

    def worth(self, size):
        """Return what a thing of this size is reckoned."""
        if not is_size_up_to(size, self.box):
            raise BadSize(size)
        return self.worths[space_of(size)]

    def reckoned(self, lot):
        """Return what all things of the lot are reckoned together."""
        if not is_lot_up_to(lot, self.box):
            raise BadLot(lot)
        return sum([many * self.worths[space_of(size)] for size, many in lot])

    def boxes(self, lot):
        """Return how many boxes the rule tells of the lot."""
        return -(-self.reckoned(lot) // self.bound)

    def times(self, many):
        """Return the rule with all worths and the bound so many times as great."""
        if not is_whole_up_to(many, 1, MOST_TIMES):
            raise BadMany(many)
        steps = [(word, start, many * worth) for word, start, worth in self.steps]
        if max([many * self.bound] + [step[2] for step in steps]) > HIGHEST:
            raise Great(HIGHEST)
        return Rule(rule_text(self.box, many * self.bound, steps))

    def with_worth(self, number, worth):
        """Return the rule in which the step of this number has this worth."""
        if not is_whole_up_to(number, 0, len(self.steps) - 1):
            raise NoStep(number)
        if not is_whole_up_to(worth, 0, HIGHEST):
            raise BadWorth(worth)
        return with_worths(self, [(number, worth)])
