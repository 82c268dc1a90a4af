"""The examples of the document, as they stand there, and those of the README."""

import doctest
import unittest
from pathlib import Path

EXAMPLES = r"""
>>> from sizesreckoned.rules import filled, Rule
>>> half = Rule('box 2\nbound 2\nfrom 1 1\nbeyond 1 2')
>>> [half.box, half.bound, half.steps, half.worth((1, 2)), half.worth((1, 1)), half.worth((9, 8))]
[2, 2, (('from', 1, 1), ('beyond', 1, 2)), 0, 1, 2]
>>> [half.boxes((((1, 1), 3),)), filled((((1, 3), 2), ((1, 2), 1))), half.times(3).text.split('\n')[1:]]
[2, (7, 6), ['bound 6', 'from 1 3', 'beyond 1 6']]

>>> from sizesreckoned.sound import judged, most, plain, shows_judged
>>> thirds = Rule('box 3\nbound 2\nfrom 1 1\nbeyond 2 2')
>>> [judged(thirds)[0], shows_judged(half, ('sound', (0, 0, 1, 2, 2))), shows_judged(thirds, ('broken', (((1, 1), 3),))), most(half, (3, 2))]
['broken', True, True, 2]
>>> [plain(Rule('box 4\nbound 9\nfrom 1 0\nbeyond 1 3\nfrom 2 3\nfrom 4 5')).text.split('\n')[2:], most(half, (2, 3))]
[['beyond 1 3', 'from 4 5'], 0]

>>> from sizesreckoned.greatest import best_rules, greatest, shows_greatest
>>> [greatest(half), greatest(half.with_worth(0, 0))[0], shows_greatest(half.with_worth(0, 0), ('room', (1, 1), (1, 2))), shows_greatest(half.with_worth(0, 0), ('room', (1, 1), (3, 2)))]
[('greatest',), 'room', True, False]
>>> [best_rules(2, 2) == (half.text,), len(best_rules(1, 2)), best_rules(3, 1), best_rules(3, 2)]
[True, 0, (), ('box 3\nbound 2\nbeyond 1 1\nfrom 2 2',)]

>>> from sizesreckoned.making import behind, finer, rounding
>>> [rounding(1) == half, rounding(2).text.split('\n')[2:], judged(rounding(7))[0], greatest(rounding(5))]
[True, ['from 1 2', 'beyond 1 3', 'from 2 4', 'beyond 2 6'], 'sound', ('greatest',)]
>>> [behind(half, half) == half, finer(half, 3).text.split('\n')]
[True, ['box 6', 'bound 2', 'from 3 1', 'beyond 3 2']]

>>> from sizesreckoned.boxes import shows_wanted, wanted
>>> from sizesreckoned.mixed import best, shows_best
>>> [best(2, ((1, 3),))[:3], wanted(2, ((1, 3),))[0], best(10, ((4, 4), (5, 2), (6, 1)))[1]]
[('best', (3, 2), (((2,), (3, 2)),)), 2, (7, 2)]
>>> [shows_best(2, ((1, 3),), ('best', (3, 2), (((2,), (3, 2)),), half.text)), wanted(10, ((4, 4), (5, 2), (6, 1)))[::2]]
[True, (4, 0)]

>>> from sizesreckoned.beside import needed, shows_needed, within
>>> low, high = Rule('box 2\nbound 1\nfrom 2 1'), Rule('box 2\nbound 1\nbeyond 1 1')
>>> [within(low, high), within(high, low)[0], needed((low, high), 0)[0], needed((low, high), 1)[0]]
[('within',), 'more', 'idle', 'needed']
>>> shows_needed((half, high), 0, ('needed', (((1, 1), 1),)))
True
"""


class Examples(unittest.TestCase):

    def check(self, text, name):
        """Check that each example of the text gives what stands below it."""
        examples = doctest.DocTestParser().get_doctest(text, {}, name, name, 0)
        told = []
        results = doctest.DocTestRunner(verbose=False).run(examples, out=told.append)
        self.assertEqual(results.failed, 0, "".join(told))
        return results.attempted

    def test_of_the_document(self):
        self.assertEqual(self.check(EXAMPLES, "DOC"), 22)

    def test_of_the_readme(self):
        text = (Path(__file__).parent.parent / "README.md").read_text(encoding="utf-8")
        self.assertGreater(self.check(text.replace("```", ""), "README"), 9)


if __name__ == "__main__":
    unittest.main()
