"""Desks: docks that are spoken to by lines."""

from sizesreckoned.errors import BadLine
from sizesreckoned.journals import do_written, read_journal, written_deed
from sizesreckoned.kinds import size_text, written_integer

WORDS_ALONE = ("undo", "redo", "told", "things")


def saying_of(line):
    """Return (word, what is said with it ..) of the line, None if it has no form that a desk understands."""
    if not isinstance(line, str) or "\n" in line:
        return None
    if line in WORDS_ALONE:
        return (line,)
    words = line.split(" ")
    if len(words) == 2 and words[0] == "why":
        number = written_integer(words[1])
        return None if number is None else ("why", number)
    return written_deed(line)


def told_text(told):
    """Return the answer that writes what a dock told."""
    number, by = told
    return f"{number} -" if by is None else f"{number} {by}"


def things_text(things):
    """Return the answer that writes the things."""
    return " ".join([f"{name}:{size_text(size)}" for name, size in things])


def worths_text(worths):
    """Return the answer that writes what each thing is reckoned."""
    return " ".join([f"{name}:{worth}" for name, worth in worths])


class Desk:
    """A desk at the dock of a journal."""

    def __init__(self, text):
        self.dock = read_journal(text)

    def say(self, line):
        """Do what the line says, and return the answer."""
        saying = saying_of(line)
        if saying is None:
            raise BadLine(line)
        word = saying[0]
        if word == "told":
            return told_text(self.dock.told())
        if word == "things":
            return things_text(self.dock.things)
        if word == "why":
            return worths_text(self.dock.why(saying[1]))
        if word == "undo":
            self.dock.undo()
        elif word == "redo":
            self.dock.redo()
        else:
            do_written(self.dock, saying)
        return "ok"
