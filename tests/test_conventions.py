"""Section 2: how functions are called, what they leave as it was; and the interface at the end."""

import ast
import inspect
import unittest
from importlib import import_module
from pathlib import Path
from random import Random

from sizesreckoned.beside import needed, shows_needed, shows_within, within
from sizesreckoned.boxes import shows_wanted, wanted
from sizesreckoned.choosing import cheapest, shows_cheapest
from sizesreckoned.desk import Desk
from sizesreckoned.docks import Dock
from sizesreckoned.greatest import best_rules, greatest, shows_greatest
from sizesreckoned.journals import journal, read_journal
from sizesreckoned.making import behind, finer, rounding
from sizesreckoned.mixed import best, shows_best
from sizesreckoned.rules import Rule, filled
from sizesreckoned.sound import judged, most, plain, shows_judged
from tests.checking import HALF, THIRDS, Checks
from tests.reckoning import some_text, some_texts

PACKAGE = Path(__file__).parent.parent / "sizesreckoned"
FUNCTIONS = {
    "rules": {"filled": ["lot"]},
    "sound": {"judged": ["rule"], "shows_judged": ["rule", "value"], "most": ["rule", "size"], "plain": ["rule"]},
    "greatest": {"greatest": ["rule"], "shows_greatest": ["rule", "value"], "best_rules": ["box", "bound"]},
    "making": {"rounding": ["steps"], "behind": ["one", "other"], "finer": ["rule", "many"]},
    "mixed": {"best": ["box", "things"], "shows_best": ["box", "things", "value"]},
    "boxes": {"wanted": ["box", "things"], "shows_wanted": ["box", "things", "value"]},
    "beside": {"within": ["one", "other"], "shows_within": ["one", "other", "value"],
               "needed": ["rules", "number"], "shows_needed": ["rules", "number", "value"]},
    "choosing": {"cheapest": ["rule", "offers"], "shows_cheapest": ["rule", "offers", "value"]},
    "journals": {"journal": ["dock"], "read_journal": ["text"]},
}
METHODS = {
    Rule: {"worth": ["size"], "reckoned": ["lot"], "boxes": ["lot"], "times": ["many"],
           "with_worth": ["number", "worth"]},
    Dock: {"told": [], "size": ["name"], "why": ["number"], "come": ["name", "size"], "go": ["name"], "learn": ["rule"],
           "forget": ["number"], "undo": [], "redo": [], "trial": [], "keep": [], "tried": ["look", "keep"],
           "copy": []},
    Desk: {"say": ["line"]},
}
CREATED = [(Rule, "sizesreckoned.rules", ["text"], HALF, ["text", "box", "bound", "steps"]),
           (Dock, "sizesreckoned.docks", ["box"], 2, ["box", "things", "rules", "done"]),
           (Desk, "sizesreckoned.desk", ["text"], "dock 2", ["dock"])]


class Interface(Checks):

    def test_functions(self):
        for name, functions in FUNCTIONS.items():
            module = import_module(f"sizesreckoned.{name}")
            for function, names in functions.items():
                found = getattr(module, function)
                self.assertEqual(found.__module__, module.__name__)
                self.assertEqual(list(inspect.signature(found).parameters), names)

    def test_methods(self):
        for kind, methods in METHODS.items():
            for method, names in methods.items():
                self.assertIn(method, vars(kind))
                self.assertEqual(list(inspect.signature(vars(kind)[method]).parameters), ["self", *names])
        keep = inspect.signature(Dock.tried).parameters["keep"]
        self.assertEqual([keep.kind, keep.default], [keep.KEYWORD_ONLY, False])

    def test_classes(self):
        for kind, module, names, value, attributes in CREATED:
            self.assertEqual(kind.__module__, module)
            self.assertEqual(list(inspect.signature(kind).parameters), names)
            for name in attributes:
                self.assertIn(name, vars(kind(value)))

    def test_arguments_by_name(self):
        half = Rule(text=HALF)
        lot = (((1, 1), 3),)
        self.same([half.worth(size=(1, 1)), half.reckoned(lot=lot), half.boxes(lot=lot), filled(lot=lot)],
                  [1, 3, 2, (3, 1)])
        self.assertEqual(half.times(many=2).with_worth(worth=0, number=1).text, "box 2\nbound 4\nfrom 1 2\nbeyond 1 0")
        self.assertIs(shows_judged(value=judged(rule=half), rule=half), True)
        self.same([most(size=(1, 1), rule=half), plain(rule=half).text], [1, HALF])
        self.assertIs(shows_greatest(value=greatest(rule=half), rule=half), True)
        self.same(best_rules(bound=2, box=2), (HALF,))

    def test_arguments_by_name_of_rules_made_of_rules_and_told_things(self):
        half, things = rounding(steps=1), ((1, 3),)
        self.assertEqual([half, behind(other=half, one=half)], [Rule(HALF), Rule(HALF)])
        self.same(finer(many=3, rule=half).text, "box 6\nbound 2\nfrom 3 1\nbeyond 3 2")
        self.assertIs(shows_best(value=best(things=things, box=2), things=things, box=2), True)
        self.assertIs(shows_wanted(value=wanted(things=things, box=2), things=things, box=2), True)
        self.assertIs(shows_within(value=within(other=half, one=half), other=half, one=half), True)
        self.assertIs(shows_needed(value=needed(number=1, rules=(half, half)), number=1, rules=(half, half)), True)

    def test_arguments_by_name_of_the_live_part(self):
        dock = Dock(box=2)
        for told in (dock.come(name="b", size=(1, 1)), dock.come(size=(3, 2), name="a"), dock.go(name="b"),
                     dock.learn(rule=Rule(text=HALF)), dock.undo(), dock.redo(),
                     dock.tried(look=lambda held: held.keep())):
            self.assertIsNone(told)
        self.same([dock.size(name="a"), dock.why(number=0), dock.tried(keep=True, look=len)], [(3, 2), (("a", 2),), 1])
        text = journal(dock=dock)
        self.assertEqual(read_journal(text=text), dock)
        self.same(Desk(text=text).say(line="things"), "a:3/2")
        self.assertIsNone(dock.forget(number=0))
        thirds, offers = Rule(THIRDS), ((0, 0, 5), (1, 1, 2))
        self.assertIs(shows_cheapest(value=cheapest(offers=offers, rule=thirds), offers=offers, rule=thirds), True)

    def test_methods_of_which_nothing_is_told_return_none(self):
        dock = Dock(2)
        for call, told in [(dock.come, ["a", (1, 1)]), (dock.go, ["a"]), (dock.learn, [Rule(HALF)]), (dock.forget, [0]),
                           (dock.undo, []), (dock.redo, [])]:
            self.assertIsNone(call(*told))
        with dock.trial():
            self.assertIsNone(dock.keep())

    def test_returned_sequences_are_tuples(self):
        dock = read_journal("dock 2\ncome a 1\nlearn box:2 bound:2 from:1:1")
        told = cheapest(Rule(THIRDS), ((0, 0, 5), (1, 1, 2)))
        for value in (dock.things, dock.things[0], dock.rules, dock.told(), dock.why(0), dock.why(0)[0], dock.size("a"),
                      told, *told[2:], *told[4], told[4][0][1]):
            self.assertIs(type(value), tuple)

    def test_equal_calls_of_docks_and_choices(self):
        dock = read_journal("dock 2\ncome a 1\nlearn box:2 bound:2 from:1:1")
        before = journal(dock)
        for _ in range(3):
            self.same([dock.told(), dock.why(0), dock.size("a"), journal(dock), len(dock), "a" in dock],
                      [(1, None), (("a", 1),), (1, 1), before, 1, True])
            self.assertEqual(dock.copy(), read_journal(before))
        for text in some_texts(84, 40, 5, crumb=True):
            numbers = [number for number, step in enumerate(Rule(text).steps) if step[2] > 0]
            offers = tuple((number, 0, 1) for number in numbers[:5])
            if offers:
                self.same(cheapest(Rule(text), offers), cheapest(Rule(text), tuple(list(offers))))

    def test_equal_calls_return_equal_results(self):
        for text in [HALF, THIRDS, *some_texts(81, 40, 5, crumb=True)]:
            self.same(judged(Rule(text)), judged(Rule(text)))
            self.assertEqual(plain(Rule(text)), plain(Rule(text)))
            if judged(Rule(text))[0] == "sound":
                self.same(greatest(Rule(text)), greatest(Rule(text)))
                self.same(most(Rule(text), (1, 2)), most(Rule(text), (1, 2)))
        self.same(best_rules(4, 8), best_rules(4, 8))

    def test_equal_calls_of_rules_made_of_rules_and_told_things(self):
        chance = Random(83)
        for _ in range(40):
            box = chance.randint(1, 8)
            texts = [some_text(chance, box, box=box) for _ in range(3)]
            made = [tuple(Rule(text) for text in texts) for _ in range(2)]
            things = tuple((size, chance.randint(1, 2)) for size in range(max(1, box - 3), box + 1))
            self.same(best(box, things), best(box, tuple(list(things))))
            self.same(wanted(box, things), wanted(box, tuple(list(things))))
            self.same(within(*made[0][:2]), within(*made[1][:2]))
            for number in range(3):
                self.same(needed(made[0], number), needed(made[1], number))
            self.assertEqual(finer(made[0][0], 2), finer(made[1][0], 2))
        self.assertEqual([rounding(9), behind(rounding(1), rounding(1))], [rounding(9), behind(Rule(HALF), Rule(HALF))])

    def test_rules_are_left_as_they_were(self):
        for text in [HALF, THIRDS, *some_texts(82, 40, 5)]:
            rule = Rule(text)
            before = [rule.text, rule.box, rule.bound, rule.steps]
            judged(rule)
            most(rule, (1, 2))
            plain(rule)
            if judged(rule)[0] == "sound":
                greatest(rule)
            if len(rule) > 0:
                rule.with_worth(0, 7)
            rule.times(2)
            finer(rule, 2)
            within(rule, rule.times(3))
            needed((rule, rule.times(3)), 0)
            if len(rule) > 0 and rule.steps[0][2] > 0:
                cheapest(rule, ((0, 0, 1),))
            if judged(rule)[0] == "sound":
                dock = Dock(rule.box)
                dock.learn(rule)
                dock.come("a", (1, 2))
                dock.told()
                dock.forget(0)
            behind(Rule(f"box 1\nbound {rule.box}\nfrom 1 1"), rule)
            self.same([rule.text, rule.box, rule.bound, rule.steps], before)

    def test_values_are_left_as_they_were(self):
        half = Rule(HALF)
        lots = [[((1, 1), 3)], ([(1, 1), 3],)]
        for value in (["sound", [0, 0, 1, 2, 2]], ("broken", lots)):
            shows_judged(half, value)
            shows_greatest(half, value)
        self.same(lots, [[((1, 1), 3)], ([(1, 1), 3],)])


class Files(unittest.TestCase):
    """What can be counted of the rules of the language."""

    def test_lines_and_signs(self):
        for path in sorted(PACKAGE.iterdir()):
            if path.name == "__pycache__":
                continue
            self.assertEqual(path.suffix, ".py")
            text = path.read_text(encoding="utf-8")
            self.assertTrue(all(sign == "\n" or " " <= sign <= "~" for sign in text), path.name)
            self.assertTrue(text.endswith("\n"))
            self.assertLessEqual(len(text.split("\n")), 399, path.name)
            self.assertLessEqual(max(len(line) for line in text.split("\n")), 120, path.name)

    def test_functions_are_short(self):
        for path in sorted(PACKAGE.glob("*.py")):
            for node in ast.walk(ast.parse(path.read_text(encoding="utf-8"))):
                if isinstance(node, ast.FunctionDef):
                    self.assertLessEqual(node.end_lineno - node.lineno + 1, 40, node.name)

    def test_what_exits_ask(self):
        def is_of_the_form(test):
            if isinstance(test, ast.BoolOp):
                return all(is_of_the_form(part) for part in test.values)
            if isinstance(test, ast.UnaryOp):
                return isinstance(test.op, ast.Not) and is_of_the_form(test.operand)
            return (isinstance(test, ast.Compare) and isinstance(test.left, (ast.Name, ast.Attribute))
                    and len(test.ops) == 1 and isinstance(test.ops[0], (ast.Is, ast.IsNot))
                    and isinstance(test.comparators[0], ast.Constant) and test.comparators[0].value is None)

        tests = []
        for path in sorted(PACKAGE.glob("*.py")):
            for node in ast.walk(ast.parse(path.read_text(encoding="utf-8"))):
                if isinstance(node, ast.FunctionDef) and node.name == "__exit__":
                    tests.extend(part.test for part in ast.walk(node) if isinstance(part, ast.If))
        self.assertGreater(len(tests), 0)
        for test in tests:
            self.assertTrue(is_of_the_form(test), ast.unparse(test))

    def test_imports(self):
        for path in sorted(PACKAGE.glob("*.py")):
            for node in ast.walk(ast.parse(path.read_text(encoding="utf-8"))):
                self.assertNotIsInstance(node, ast.Import)
                if isinstance(node, ast.ImportFrom):
                    self.assertTrue(node.level == 0 and (node.module == "math" or node.module.startswith(PACKAGE.name)))


if __name__ == "__main__":
    unittest.main()
