"""Section 12: blocks in all ways in which they are entered, kept, left and within one another, and copies made in them."""

import unittest
from itertools import product

from sizesreckoned.docks import Dock
from sizesreckoned.errors import NoTrial
from sizesreckoned.rules import Rule
from tests.checking import HALF
from tests.docking import DockChecks, Model

# How a block is entered, by trial (None) or by tried with these arguments by name; and when keep is called in it.
WAYS = [(None, "never"), (None, "first"), (None, "last"), ({}, "never"), ({}, "last"), ({"keep": False}, "first"),
        ({"keep": 1}, "never"), ({"keep": 1}, "last"), ({"keep": True}, "never"), ({"keep": True}, "first")]
FEW_WAYS = [(None, "never"), (None, "first"), ({}, "never"), ({"keep": 1}, "never"), ({"keep": True}, "never")]


class Left(Exception):
    """What blocks are left by."""


def is_kept(way):
    """Tell whether a block that no error leaves is kept."""
    named, keep = way
    return keep != "never" or named is not None and named.get("keep") is True


def enter(dock, way, look):
    """Call look with the dock within a block, and return what it returned."""
    if way[0] is None:
        with dock.trial() as held:
            return look(held)
    return dock.tried(look, **way[0])


class AllWays(DockChecks):

    def setUp(self):
        self.dock, self.model = Dock(2), Model(2)
        self.copies = []
        for deed in [("come", "a", (1, 1)), ("learn", Rule(HALF)), ("come", "b", (2, 1)), ("undo",)]:
            self.deed(self.dock, self.model, deed)

    def through(self, ahead, levels):
        """Enter a block for each level, each within the last one; return the model of the dock behind the outermost."""
        way, fails = levels[0]
        found = []

        def look(held):
            self.assertIs(held, self.dock)
            if way[1] == "first":
                held.keep()
            found.append(self.rows(ahead.copy(), levels[1:]))
            if way[1] == "last":
                held.keep()
            if fails:
                raise Left
            return found

        if fails:
            self.assertRaises(Left, enter, self.dock, way, look)
        else:
            self.assertIs(enter(self.dock, way, look), found)
        behind = found[0] if is_kept(way) and not fails else ahead
        self.looks(self.dock, behind)
        return behind

    def rows(self, model, inner):
        """Do deeds within a block, and enter the inner ones; return the model of the dock then."""
        name = "xyz"[len(inner)]
        for deed in [("undo",), ("come", name, (1, len(inner) + 1)), ("go", "a")]:
            self.deed(self.dock, model, deed)
        if inner:
            model = self.through(model, inner)
        for deed in [("come", name * 2, (1, 1)), ("come", "a", (2, 1)), ("undo",)]:
            self.deed(self.dock, model, deed)
        self.copies.append((self.dock.copy(), model.copy()))
        return model

    def check(self, levels):
        """Check what stands behind blocks of these levels, and that copies made in them stay as they were."""
        self.setUp()
        with self.subTest(levels=levels):
            self.looks_through(self.dock, self.through(self.model, levels))
            self.raises(NoTrial, None, self.dock.keep)
            self.assertEqual(len(self.copies), len(levels))
            for copy, model in self.copies:
                self.raises(NoTrial, None, copy.keep)
                self.looks_through(copy, model)

    def test_one(self):
        for way, fails in product(WAYS, (False, True)):
            self.check([(way, fails)])

    def test_two_within_one_another(self):
        for levels in product(product(WAYS, (False, True)), repeat=2):
            self.check(levels)

    def test_three_within_one_another(self):
        for ways in product(FEW_WAYS, repeat=3):
            for fails in ((False, False, False), (False, True, False), (True, False, False), (False, False, True)):
                self.check(list(zip(ways, fails)))

    def test_an_error_that_leaves_all(self):
        def enter_all(ways):
            def look(held):
                if ways[0][1] != "never":
                    held.keep()
                held.undo()
                held.come("d", (1, 3))
                if len(ways) == 1:
                    raise Left
                enter_all(ways[1:])

            enter(self.dock, ways[0], look)

        for ways in [*product(WAYS, repeat=2), *product(FEW_WAYS, repeat=3)]:
            self.setUp()
            with self.subTest(ways=ways):
                self.assertRaises(Left, enter_all, ways)
                self.looks_through(self.dock, self.model)
                self.raises(NoTrial, None, self.dock.keep)

    def test_deeds_of_a_copy_made_within_a_block(self):
        for way, fails in product(WAYS, (False, True)):
            self.setUp()
            copies = []

            def look(held):
                held.come("c", (1, 2))
                other, model = held.copy(), self.model.copy()
                model.do(("come", "c", (1, 2)))
                self.assertEqual(other, held)
                # Blocks of the one have nothing to do with those of the other.
                with other.trial():
                    self.deed(other, model.copy(), ("go", "a"))
                    if way[1] != "never":
                        held.keep()
                for deed in [("undo",), ("come", "d", (1, 1)), ("forget", 0)]:
                    self.deed(other, model, deed)
                self.same(held.things, (("a", (1, 1)), ("c", (1, 2))))
                copies.append((other, model))
                if fails:
                    raise Left

            if fails:
                self.assertRaises(Left, enter, self.dock, way, look)
            else:
                self.assertIsNone(enter(self.dock, way, look))
            if is_kept(way) and not fails:
                self.model.do(("come", "c", (1, 2)))
            self.looks_through(self.dock, self.model)
            self.looks_through(*copies[0])
            self.raises(NoTrial, None, copies[0][0].keep)


if __name__ == "__main__":
    unittest.main()
