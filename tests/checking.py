"""What the tests hand in that is wrong, and how they look at errors."""

import unittest

from sizesreckoned.desk import Desk
from sizesreckoned.docks import Dock
from sizesreckoned.errors import BadBox
from sizesreckoned.rules import Rule

HALF = "box 2\nbound 2\nfrom 1 1\nbeyond 1 2"
THIRDS = "box 3\nbound 2\nfrom 1 1\nbeyond 2 2"


def nested(deep):
    """Return a tuple nested so deep."""
    value = ()
    for _ in range(deep):
        value = (value,)
    return value


def any_values():
    """Return values of all kinds; none is a size, a lot but (), a text of a rule or an integer above 0."""
    return [
        None, True, False, 0, -1, -999999999, "", "a", "box 2", (), [], {}, {"a": 1}, (0,), (1,), [1, 2],
        (True, 1), (1, True), (1, 0), (2, 2), (2, 4), (0, 1), (0, 2), (-1, 2), (1, -2), (1, 2, 3), ("1", 2), ("1", "2"),
        (None, None), ([], 1), (1, {}), (((1, 2), 1), 1), nested(30), [nested(29)], {"a": nested(28)}, Rule(HALF),
        (Rule(HALF), 1), (1, Rule(HALF)), Dock(2), (Dock(2), 1), [Desk("dock 2")], BadBox(1), {"a": [Dock(2), None]},
    ]


def alike(one, other):
    """Tell whether two values are the same and of the same kinds, at any depth."""
    if type(one) is not type(other):
        return False
    if isinstance(one, (tuple, list)):
        return len(one) == len(other) and all(alike(a, b) for a, b in zip(one, other))
    if isinstance(one, dict):
        return alike(sorted(one.items()), sorted(other.items()))
    return one == other


class Checks(unittest.TestCase):
    """Tests that look at errors and values closely."""

    def raises(self, error, value, call, *args, **more):
        """Check that just this error is raised, with just this value."""
        with self.assertRaises(error) as caught:
            call(*args, **more)
        self.assertIs(type(caught.exception), error)
        self.assertTrue(alike(caught.exception.value, value), (caught.exception.value, value))

    def same(self, one, other):
        """Check that two values are the same and of the same kinds."""
        self.assertTrue(alike(one, other), (one, other))
