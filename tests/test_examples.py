"""The examples of the document, as they stand there, and those of the README."""

import doctest
import unittest
from pathlib import Path

EXAMPLES = r"""
>>> from sizesreckoned.rules import filled, Rule
>>> half = Rule('box 2\nbound 2\nfrom 1 1\nbeyond 1 2')
>>> [half.box, half.bound, half.steps, half.worth((1, 2)), half.worth((1, 1)), half.worth((9, 8))]
[2, 2, (('from', 1, 1), ('beyond', 1, 2)), 0, 1, 2]
>>> [half.boxes((((1, 1), 3),)), filled((((1, 3), 2), ((1, 2), 1))), half.times(3).text.split('\n')[1:]]
[2, (7, 6), ['bound 6', 'from 1 3', 'beyond 1 6']]

>>> from sizesreckoned.sound import judged, most, plain, shows_judged
>>> thirds = Rule('box 3\nbound 2\nfrom 1 1\nbeyond 2 2')
>>> [judged(thirds)[0], shows_judged(half, ('sound', (0, 0, 1, 2, 2))), shows_judged(thirds, ('broken', (((1, 1), 3),))), most(half, (3, 2))]
['broken', True, True, 2]
>>> [plain(Rule('box 4\nbound 9\nfrom 1 0\nbeyond 1 3\nfrom 2 3\nfrom 4 5')).text.split('\n')[2:], most(half, (2, 3))]
[['beyond 1 3', 'from 4 5'], 0]

>>> from sizesreckoned.greatest import best_rules, greatest, shows_greatest
>>> [greatest(half), greatest(half.with_worth(0, 0))[0], shows_greatest(half.with_worth(0, 0), ('room', (1, 1), (1, 2))), shows_greatest(half.with_worth(0, 0), ('room', (1, 1), (3, 2)))]
[('greatest',), 'room', True, False]
>>> [best_rules(2, 2) == (half.text,), len(best_rules(1, 2)), best_rules(3, 1), best_rules(3, 2)]
[True, 0, (), ('box 3\nbound 2\nbeyond 1 1\nfrom 2 2',)]

>>> from sizesreckoned.making import behind, finer, rounding
>>> [rounding(1) == half, rounding(2).text.split('\n')[2:], judged(rounding(7))[0], greatest(rounding(5))]
[True, ['from 1 2', 'beyond 1 3', 'from 2 4', 'beyond 2 6'], 'sound', ('greatest',)]
>>> [behind(half, half) == half, finer(half, 3).text.split('\n')]
[True, ['box 6', 'bound 2', 'from 3 1', 'beyond 3 2']]

>>> from sizesreckoned.boxes import shows_wanted, wanted
>>> from sizesreckoned.mixed import best, shows_best
>>> [best(2, ((1, 3),))[:3], wanted(2, ((1, 3),))[0], best(10, ((4, 4), (5, 2), (6, 1)))[1]]
[('best', (3, 2), (((2,), (3, 2)),)), 2, (7, 2)]
>>> [shows_best(2, ((1, 3),), ('best', (3, 2), (((2,), (3, 2)),), half.text)), wanted(10, ((4, 4), (5, 2), (6, 1)))[::2]]
[True, (4, 0)]

>>> from sizesreckoned.beside import needed, shows_needed, within
>>> low, high = Rule('box 2\nbound 1\nfrom 2 1'), Rule('box 2\nbound 1\nbeyond 1 1')
>>> [within(low, high), within(high, low)[0], needed((low, high), 0)[0], needed((low, high), 1)[0]]
[('within',), 'more', 'idle', 'needed']
>>> shows_needed((half, high), 0, ('needed', (((1, 1), 1),)))
True

>>> from sizesreckoned.choosing import cheapest
>>> cheapest(thirds, ((0, 0, 5), (1, 1, 2)))[:3]
('choice', 5, (0,))

>>> from sizesreckoned.docks import Dock
>>> dock = Dock(2)
>>> [dock.come('a', (1, 1)), dock.come('b', (11, 10)), dock.come('c', (11, 10)), dock.told(), dock.learn(half), dock.told(), dock.why(0)]
[None, None, None, (2, None), None, (3, 0), (('a', 1), ('b', 2), ('c', 2))]
>>> [dock.go('a'), dock.told(), dock.undo(), dock.undo(), dock.told(), len(dock), 'c' in dock, dock.done]
[None, (2, None), None, None, (2, None), 3, True, 3]

>>> from sizesreckoned.desk import Desk
>>> from sizesreckoned.journals import journal
>>> desk = Desk(journal(dock) + '\nlearn box:2 bound:1 beyond:1:1')
>>> [desk.say(line) for line in ('told', 'things', 'go a', 'told', 'why 0', 'undo', 'forget 0', 'told')]
['2 -', 'a:1 b:11/10 c:11/10', 'ok', '2 -', 'b:1 c:1', 'ok', 'ok', '2 -']
>>> journal(desk.dock).split('\n')[3:]
['come c 11/10', 'learn box:2 bound:1 beyond:1:1', 'forget 0']
"""


class Examples(unittest.TestCase):

    def check(self, text, name):
        """Check that each example of the text gives what stands below it."""
        examples = doctest.DocTestParser().get_doctest(text, {}, name, name, 0)
        told = []
        results = doctest.DocTestRunner(verbose=False).run(examples, out=told.append)
        self.assertEqual(results.failed, 0, "".join(told))
        return results.attempted

    def test_of_the_document(self):
        self.assertEqual(self.check(EXAMPLES, "DOC"), 33)

    def test_of_the_readme(self):
        text = (Path(__file__).parent.parent / "README.md").read_text(encoding="utf-8")
        self.assertGreater(self.check(text.replace("```", ""), "README"), 40)


if __name__ == "__main__":
    unittest.main()
