"""Journals of docks: all deeds that stand, written one behind the other, and read back."""

from sizesreckoned.docks import Dock, standing_lines
from sizesreckoned.errors import BadJournal, BadRule, ReckonError
from sizesreckoned.rules import WIDEST, Rule, whole_behind
from sizesreckoned.kinds import written_integer, written_size


def journal(dock):
    """Return the journal of the dock."""
    return "\n".join([f"dock {dock.box}", *standing_lines(dock)])


def read_journal(text):
    """Return a dock on which all was done that the journal tells."""
    if not isinstance(text, str):
        raise BadJournal(0)
    lines = text.split("\n")
    box = whole_behind("dock", lines[0], WIDEST)
    if box is None:
        raise BadJournal(1)
    dock = Dock(box)
    for at in range(1, len(lines)):
        if not is_done(dock, lines[at]):
            raise BadJournal(at + 1)
    return dock


def is_done(dock, line):
    """Do what the line writes on the dock, and tell whether it could be done."""
    deed = written_deed(line)
    if deed is None:
        return False
    try:
        do_written(dock, deed)
    except ReckonError:
        return False
    return True


def written_deed(line):
    """Return (word, what it is done with ..) of the deed that the line writes, None if it writes none."""
    words = line.split(" ")
    if words[0] == "learn":
        rule = written_rule(words[1:])
        return None if rule is None else ("learn", rule)
    if "" in words:
        return None
    if words[0] == "go" and len(words) == 2:
        return ("go", words[1])
    if words[0] == "forget" and len(words) == 2:
        number = written_integer(words[1])
        return None if number is None else ("forget", number)
    if words[0] == "come" and len(words) == 3:
        size = written_size(words[2])
        return None if size is None else ("come", words[1], size)
    return None


def written_rule(words):
    """Return the rule of which each word writes a line, None if they write none."""
    text = "\n".join(words).replace(":", " ")
    try:
        return Rule(text)
    except BadRule:
        return None


def do_written(dock, deed):
    """Do the deed, as it was written, on the dock."""
    word = deed[0]
    if word == "come":
        dock.come(deed[1], deed[2])
    elif word == "go":
        dock.go(deed[1])
    elif word == "learn":
        dock.learn(deed[1])
    else:
        dock.forget(deed[1])
