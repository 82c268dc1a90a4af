"""All errors of the package, those of later parts too."""


class ReckonError(ValueError):
    """What all errors of the package derive from; it keeps the value it was made with."""

    def __init__(self, value):
        ValueError.__init__(self, value)
        self.value = value


class BadRule(ReckonError):
    """No text of a rule: the number of the wrong line, 0 for no string."""


class BadSize(ReckonError):
    """No size, or none that fits the box."""


class BadLot(ReckonError):
    """No lot, or none of sizes that fit the box."""


class BadMany(ReckonError):
    """No number of times or steps that may be asked for."""


class Great(ReckonError):
    """Something would be greater than this."""


class NoStep(ReckonError):
    """No number of a step."""


class BadWorth(ReckonError):
    """No worth."""


class Broken(ReckonError):
    """The rule is not sound: a lot that fits a box and is reckoned more than the bound."""


class Endless(ReckonError):
    """There is no greatest number."""


class BadBox(ReckonError):
    """No size of a box that may be asked for."""


class BadBound(ReckonError):
    """No bound that may be asked for."""


class OtherBox(ReckonError):
    """No rule, or a rule of another box."""


class BadThings(ReckonError):
    """No things for the box."""


class Many(ReckonError):
    """There are more than so many."""


class BadRules(ReckonError):
    """No rules of one box."""


class NoRule(ReckonError):
    """No number of a rule."""


class BadOffers(ReckonError):
    """No offers for the rule."""


class NotHere(ReckonError):
    """No thing of this name is there."""


class BadName(ReckonError):
    """No name."""


class Here(ReckonError):
    """A thing of this name is there already."""


class Full(ReckonError):
    """No more than so many may be there."""


class Known(ReckonError):
    """A rule that is known tells no fewer boxes: its number."""


class NothingToUndo(ReckonError):
    """No deed stands."""


class NothingToRedo(ReckonError):
    """No deed was taken back."""


class NoTrial(ReckonError):
    """No block of a trial was entered."""


class BadJournal(ReckonError):
    """No journal: the number of the wrong line, 0 for no string."""


class BadLine(ReckonError):
    """No line that a desk understands."""
