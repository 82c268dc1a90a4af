"""Section 12: blocks by trial and tried, several within one another, kept and not kept."""

import unittest
from random import Random

from sizesreckoned.docks import Dock
from sizesreckoned.errors import Here, NoTrial, NothingToRedo, NothingToUndo, NotHere, ReckonError
from sizesreckoned.journals import journal
from sizesreckoned.rules import Rule
from tests.checking import HALF, any_values
from tests.docking import DockChecks, Model, some_deed, some_rules


class Left(Exception):
    """What the tests leave blocks by."""


def dock_and_model():
    """Return a dock with a thing, a rule, and a deed that can be done again; and its model."""
    dock, model = Dock(2), Model(2)
    for deed in [("come", "a", (1, 1)), ("learn", Rule(HALF)), ("come", "b", (2, 1)), ("undo",)]:
        getattr(dock, deed[0])(*deed[1:])
        model.do(deed)
    return dock, model


class Blocks(DockChecks):

    def setUp(self):
        self.dock, self.model = dock_and_model()

    def test_held_is_the_dock_itself(self):
        with self.dock.trial() as held:
            self.assertIs(held, self.dock)
        self.assertIs(self.dock.tried(lambda dock: dock), self.dock)

    def test_not_kept(self):
        with self.dock.trial():
            self.dock.come("c", (1, 2))
            self.dock.go("a")
            self.dock.forget(0)
            self.same([self.dock.things, self.dock.rules, self.dock.done], [(("c", (1, 2)),), (), 5])
        self.looks_through(self.dock, self.model)

    def test_kept(self):
        with self.dock.trial():
            for deed in [("come", "c", (1, 2)), ("go", "a"), ("forget", 0), ("undo",)]:
                self.deed(self.dock, self.model, deed)
            self.assertIsNone(self.dock.keep())
            self.deed(self.dock, self.model, ("come", "d", (1, 3)))
            self.assertIsNone(self.dock.keep())
            self.deed(self.dock, self.model, ("undo",))
        self.looks_through(self.dock, self.model)

    def test_nothing_done(self):
        for keep in (False, True):
            with self.dock.trial():
                if keep:
                    self.dock.keep()
            self.looks_through(self.dock, self.model)
            self.dock.tried(len, keep=keep)
            self.looks_through(self.dock, self.model)

    def test_undo_goes_on_to_what_was_done_ahead(self):
        with self.dock.trial():
            for _ in range(2):
                self.dock.undo()
            self.raises(NothingToUndo, None, self.dock.undo)
            self.same([self.dock.done, len(self.dock)], [0, 0])
        self.looks_through(self.dock, self.model)
        with self.dock.trial():
            self.dock.redo()
            self.raises(NothingToRedo, None, self.dock.redo)
            self.assertIs("b" in self.dock, True)
        self.looks_through(self.dock, self.model)
        with self.dock.trial():
            for _ in range(2):
                self.dock.undo()
            self.dock.come("z", (1, 1))
            self.raises(NothingToRedo, None, self.dock.redo)
        self.looks_through(self.dock, self.model)

    def test_undo_and_redo_that_are_kept(self):
        with self.dock.trial():
            self.deed(self.dock, self.model, ("undo",))
            self.deed(self.dock, self.model, ("undo",))
            self.dock.keep()
        self.looks_through(self.dock, self.model)
        with self.dock.trial():
            self.dock.keep()
            self.deed(self.dock, self.model, ("redo",))
            self.deed(self.dock, self.model, ("go", "a"))
        self.looks_through(self.dock, self.model)

    def test_an_error_leaves_a_block(self):
        for keep in (False, True):
            for error in (Left, ReckonError(1), KeyboardInterrupt, NoTrial(None)):
                with self.assertRaises(error if isinstance(error, type) else type(error)) as caught:
                    with self.dock.trial():
                        self.dock.come("c", (1, 1))
                        if keep:
                            self.dock.keep()
                        self.dock.undo()
                        self.dock.undo()
                        raise error
                if not isinstance(error, type):
                    self.assertIs(caught.exception, error)
                self.looks_through(self.dock, self.model)
                self.raises(NoTrial, None, self.dock.keep)

    def test_a_refused_deed_that_leaves_a_block(self):
        with self.assertRaises(Here):
            with self.dock.trial():
                self.dock.keep()
                self.dock.come("c", (1, 1))
                self.dock.come("a", (1, 1))
        self.looks_through(self.dock, self.model)

    def test_a_refused_deed_that_is_caught(self):
        for keep in (False, True):
            with self.dock.trial():
                self.dock.come("c", (1, 1))
                self.raises(Here, "a", self.dock.come, "a", (1, 1))
                self.raises(NotHere, "x", self.dock.go, "x")
                if keep:
                    self.dock.keep()
            if keep:
                self.model.do(("come", "c", (1, 1)))
            self.looks_through(self.dock, self.model)

    def test_blocks_left_otherwise(self):
        def returned(keep):
            with self.dock.trial():
                self.dock.go("a")
                if keep:
                    self.dock.keep()
                return 5

        self.same(returned(False), 5)
        self.looks_through(self.dock, self.model)
        for _ in range(3):
            with self.dock.trial():
                self.dock.go("a")
                continue
        for _ in range(3):
            with self.dock.trial():
                self.dock.go("a")
                break
        self.looks_through(self.dock, self.model)
        self.same(returned(True), 5)
        self.model.do(("go", "a"))
        self.looks_through(self.dock, self.model)

    def test_as_it_was_when_it_was_entered(self):
        # Not when trial was called.
        block = self.dock.trial()
        self.deed(self.dock, self.model, ("come", "c", (1, 2)))
        self.deed(self.dock, self.model, ("undo",))
        self.raises(NoTrial, None, self.dock.keep)
        with block:
            self.dock.come("d", (1, 2))
        self.looks_through(self.dock, self.model)

    def test_entered_in_another_sequence_than_made(self):
        first, second = self.dock.trial(), self.dock.trial()
        with second:
            self.dock.go("a")
            with first:
                self.dock.keep()
                self.dock.come("d", (1, 2))
            self.same(len(self.dock), 1)
        self.looks_through(self.dock, self.model)
        self.raises(NoTrial, None, self.dock.keep)

    def test_one_behind_the_other(self):
        for number in range(6):
            with self.dock.trial():
                self.dock.come("c", (1, number + 1))
                if number % 2:
                    self.dock.keep()
            if number % 2:
                self.model.do(("come", "c", (1, number + 1)))
                self.deed(self.dock, self.model, ("go", "c"))
            self.looks_through(self.dock, self.model)


class Within(DockChecks):
    """Several blocks within one another."""

    def setUp(self):
        self.dock, self.model = dock_and_model()

    def nested(self, outer, inner):
        """Do deeds in two blocks, kept or not, and check what stands behind each."""
        outside = self.model.copy()
        with self.dock.trial():
            self.deed(self.dock, self.model, ("come", "c", (1, 2)))
            entered = self.model.copy()
            with self.dock.trial():
                self.deed(self.dock, self.model, ("undo",))
                self.deed(self.dock, self.model, ("go", "a"))
                if inner:
                    self.dock.keep()
            if not inner:
                self.model = entered
            self.looks_through(self.dock, self.model)
            self.deed(self.dock, self.model, ("come", "d", (1, 2)))
            if outer:
                self.dock.keep()
        if not outer:
            self.model = outside
        self.looks_through(self.dock, self.model)
        self.raises(NoTrial, None, self.dock.keep)

    def test_two(self):
        for outer in (False, True):
            for inner in (False, True):
                self.dock, self.model = dock_and_model()
                self.nested(outer, inner)

    def test_keep_belongs_to_the_innermost_block(self):
        with self.dock.trial():
            with self.dock.trial():
                self.dock.go("a")
                self.dock.keep()
            self.assertIs("a" in self.dock, False)
        self.looks_through(self.dock, self.model)
        with self.dock.trial():
            self.dock.keep()
            with self.dock.trial():
                self.dock.go("a")
            self.assertIs("a" in self.dock, True)
            self.deed(self.dock, self.model, ("come", "c", (2, 1)))
        self.looks_through(self.dock, self.model)

    def test_an_error_caught_between(self):
        with self.dock.trial():
            self.deed(self.dock, self.model, ("come", "c", (2, 1)))
            with self.assertRaises(Left):
                with self.dock.trial():
                    self.dock.keep()
                    self.dock.go("c")
                    raise Left
            self.looks_through(self.dock, self.model)
            self.dock.keep()
        self.looks_through(self.dock, self.model)

    def test_an_error_through_all(self):
        with self.assertRaises(Left):
            with self.dock.trial():
                self.dock.keep()
                self.dock.go("a")
                with self.dock.trial():
                    self.dock.keep()
                    self.dock.undo()
                    raise Left
        self.looks_through(self.dock, self.model)
        self.raises(NoTrial, None, self.dock.keep)

    def test_many_drawn_blocks(self):
        chance = Random(641)
        self.counts = {"kept": 0, "left": 0, "error": 0, "tried": 0}
        for _ in range(60):
            box = chance.choice((1, 2, 5, 60))
            self.rules = some_rules(chance, box, 5)
            dock, model = Dock(box), Model(box)
            for _ in range(12):
                if chance.random() < 0.3:
                    model = self.block(chance, dock, model, 3)
                else:
                    self.deed(dock, model, some_deed(chance, box, self.rules, 0.9))
            self.looks_through(dock, model)
            self.raises(NoTrial, None, dock.keep)
        self.assertGreater(min(self.counts.values()), 30)

    def block(self, chance, dock, model, deep):
        """Enter a block, do deeds and go through further blocks in it; return the model of the dock behind it."""
        ahead = model.copy()
        way, keep, fail = chance.choice(("trial", "tried")), chance.random() < 0.6, chance.random() < 0.25
        found = []
        if way == "tried":
            self.counts["tried"] += 1
            by_name = keep and chance.random() < 0.5

            def look(held):
                self.assertIs(held, dock)
                found.append(self.rows(chance, dock, model, deep, keep and not by_name))
                if fail:
                    raise Left
                return found

            if fail:
                self.assertRaises(Left, dock.tried, look, keep=by_name)
            else:
                self.assertIs(dock.tried(look, keep=by_name), found)
        else:
            try:
                with dock.trial() as held:
                    self.assertIs(held, dock)
                    found.append(self.rows(chance, dock, model, deep, keep))
                    if fail:
                        raise Left
            except Left:
                pass
        self.counts["error" if fail else "kept" if keep else "left"] += 1
        behind = found[0] if keep and not fail else ahead
        self.looks_through(dock, behind)
        return behind

    def rows(self, chance, dock, model, deep, keep):
        """Do deeds and go through further blocks within a block; return the model of the dock behind them."""
        model = model.copy()
        at = chance.randint(0, 6)
        for number in range(7):
            if keep and number == at:
                dock.keep()
            if deep > 0 and chance.random() < 0.25:
                model = self.block(chance, dock, model, deep - 1)
            else:
                self.deed(dock, model, some_deed(chance, model.box, self.rules, 0.9))
        self.looks(dock, model)
        return model

    def test_many_blocks_within_one_another(self):
        def deeper(left):
            ahead = self.dock.done
            with self.dock.trial():
                self.dock.come("c", (1, left + 1))
                self.dock.go("c")
                if left > 0:
                    deeper(left - 1)
                self.same(self.dock.done, ahead + (4 if left % 7 == 4 else 2))
                if left % 7 == 3:
                    self.dock.keep()
                    self.dock.undo()
                    self.dock.redo()

        deeper(60)
        self.looks_through(self.dock, self.model)


class Tried(DockChecks):

    def setUp(self):
        self.dock, self.model = dock_and_model()

    def test_what_look_returned(self):
        for value in any_values():
            self.assertIs(self.dock.tried(lambda dock, told=value: told), value)
            self.assertIs(self.dock.tried(lambda dock, told=value: told, keep=True), value)
        self.same(self.dock.tried(lambda dock: (dock.go("a"), len(dock))), (None, 0))
        self.looks_through(self.dock, self.model)
        self.same(self.dock.tried(look=lambda dock: len(dock), keep=False), 1)
        self.same(self.dock.tried(len), 1)

    def test_kept_for_true_only(self):
        for value in any_values() + [1, 2, "True", (True,), [True], 1.0]:
            if value is not True:
                self.same(self.dock.tried(lambda dock: dock.go("a"), keep=value), None)
                self.looks_through(self.dock, self.model)
        self.dock.tried(lambda dock: dock.go("a"), keep=True)
        self.model.do(("go", "a"))
        self.looks_through(self.dock, self.model)

    def test_kept_by_look(self):
        for keep, name in [(False, "c"), (None, "d"), (True, "e"), (1, "f")]:
            def look(dock):
                dock.come(name, (1, 1))
                dock.keep()

            self.assertIsNone(self.dock.tried(look, keep=keep))
            self.model.do(("come", name, (1, 1)))
            self.looks_through(self.dock, self.model)

    def test_errors_pass_on(self):
        def look(dock):
            dock.come("c", (1, 1))
            dock.keep()
            dock.undo()
            dock.undo()
            raise Left

        for keep in (False, True):
            self.assertRaises(Left, self.dock.tried, look, keep=keep)
            self.looks_through(self.dock, self.model)
            self.raises(Here, "a", self.dock.tried, lambda dock: dock.come("a", (1, 1)), keep=keep)
            self.looks_through(self.dock, self.model)
            self.raises(NoTrial, None, self.dock.keep)

    def test_keep_is_given_by_name(self):
        self.assertRaises(TypeError, self.dock.tried, len, True)
        self.looks_through(self.dock, self.model)

    def test_within_look(self):
        def look(dock):
            dock.come("c", (1, 1))
            with dock.trial():
                dock.come("d", (1, 1))
            dock.tried(lambda held: held.come("e", (1, 1)), keep=True)
            return dock.things

        self.same(self.dock.tried(look), (("a", (1, 1)), ("c", (1, 1)), ("e", (1, 1))))
        self.looks_through(self.dock, self.model)
        self.dock.tried(look, keep=True)
        for name in "ce":
            self.model.do(("come", name, (1, 1)))
        self.looks_through(self.dock, self.model)


class Outside(DockChecks):

    def test_no_trial(self):
        dock, model = dock_and_model()
        self.raises(NoTrial, None, dock.keep)
        dock.trial()
        self.raises(NoTrial, None, dock.keep)
        with dock.trial():
            dock.keep()
        self.raises(NoTrial, None, dock.keep)
        dock.tried(len, keep=True)
        self.raises(NoTrial, None, dock.keep)
        self.looks_through(dock, model)

    def test_a_copy_made_within_a_block(self):
        dock, model = dock_and_model()
        with dock.trial():
            self.raises(NoTrial, None, Dock(2).keep)
            dock.come("c", (1, 2))
            dock.undo()
            other, second = dock.copy(), model.copy()
            second.do(("come", "c", (1, 2)))
            second.do(("undo",))
            self.raises(NoTrial, None, other.keep)
            self.looks_through(other, second)
            dock.go("a")
            with other.trial():
                other.come("d", (1, 1))
                dock.keep()
            self.looks_through(other, second)
            self.raises(NoTrial, None, other.keep)
        model.do(("go", "a"))
        self.looks_through(dock, model)
        self.looks_through(other, second)
        other.redo()
        self.assertIs("c" in other, True)

    def test_journals_and_equal_docks_within_a_block(self):
        dock, model = dock_and_model()
        other = dock.copy()
        with dock.trial():
            self.assertEqual(dock, other)
            dock.go("a")
            self.assertNotEqual(dock, other)
            self.same(journal(dock), model.journal() + "\ngo a")
        self.assertEqual(dock, other)
        self.same(journal(dock), model.journal())

    def test_with_many_deeds(self):
        dock = Dock(60)
        for _ in range(1500):
            dock.come("a", (1, 2))
            dock.go("a")
        lines = journal(dock)
        for number in range(300):
            with dock.trial():
                dock.undo()
                dock.come("b", (number % 60 + 1, 1))
                if number % 3 == 0:
                    dock.keep()
            self.same(dock.done, 3000)
            if number % 3 == 0:
                dock.undo()
                dock.go("a")
        self.same([journal(dock), len(dock)], [lines, 0])


if __name__ == "__main__":
    unittest.main()
