"""The examples of the document, word for word."""

import doctest
import unittest

from rootshared.base import pools, webs
from rootshared.groups import groups, links
from rootshared.words import words

VALUES = """
RIGHT = Web(((), (0,)))
LEFT = Web(((1,), ()))
BOTH = Web(((1,), (0,)))
LINE = Pool((RIGHT, LEFT, BOTH))
STARS = star_pool(3)
"""

WEBS = """
>>> [RIGHT.roots, BOTH.parts, str(LEFT), RIGHT.joined(LEFT) == BOTH, silent_web(2).roots, chain_web(3, 1).heard]
[(0,), ((0, 1),), 'web of 2 houses: 0 hears 1', True, (), ((2,), (), (1,))]
>>> [chain_web(3, 0).then(chain_web(3, 0)).heard, star_web(3, 2).hears(0), (1, 0) in RIGHT, len(full_web(4)), RIGHT.is_within(BOTH)]
[((), (0,), (0, 1)), (0, 2), True, 12, True]
"""

POOLS = """
>>> [LINE.roots, LINE.always, str(STARS), STARS.roots, chain_pool(3).roots, muted_pool(3).roots]
[((0,), (1,), (0, 1)), (), 'pool of 3 webs on 3 houses', ((0,), (1,), (2,)), ((0,), (1,), (2,)), ((0, 1, 2), (1, 2), (0, 2), (0, 1))]
>>> [LINE.index_of(BOTH), LINE.part((0, 2)).always, LINE.is_group((2, 0)), muted_pool(2).without(0) == Pool((LEFT, RIGHT)), RIGHT in LINE]
[2, (0,), False, True, True]
"""

LINKS = """
>>> [alike(RIGHT, BOTH, LEFT), alike(RIGHT, BOTH, RIGHT), links_in(LINE, (0, 1, 2)), parts_of(LINE, (0, 2)), parts_of(STARS, (0, 1, 2))]
[True, False, ((0, 2, 1), (1, 2, 0)), ((0,), (2,)), ((0,), (1,), (2,))]
>>> [is_linked_way(LINE, (0, 1, 2), (0, 1, 2, 0, 1)), is_linked_way(LINE, (0, 1, 2), (0, 2, 1)), links_in(chain_pool(3), (0, 1, 2))]
[True, False, ((0, 1, 2), (0, 2, 1), (1, 2, 0))]
"""

GROUPS = """
>>> [splitting(LINE), closed_groups(STARS), can_agree(LINE), can_agree(LINE.part((0, 2))), common_roots(LINE, (0, 2)), can_agree(muted_pool(3))]
[(((0, 1, 2),),), ((0,), (1,), (2,)), False, True, (0,), True]
>>> [is_obstacle(LINE, ((0, 1, 2), ((0, 2, 1), (1, 2, 0)))), is_obstacle(LINE, ((0, 1, 2), ((0, 2, 1),))), is_agreement_paper(LINE.part((0, 2)), (((0, 1),),)), is_obstacle(Pool((silent_web(2),)), ((0,), ()))]
[True, False, True, True]
"""

WORDS = """
>>> [known_inputs(chain_pool(3), (0, 0)), heard_by_all(chain_pool(3), (0, 0)), heard_by_all(STARS, (1,)), first_round(LINE, (1, 0, 2), 0)]
[((0,), (0, 1), (0, 1, 2)), (0,), (1,), 2]
>>> [latest(LINE.part((0, 2)), 0), latest(LINE, 0), is_stall(LINE, 0, ((), 1)), latest(Pool((chain_web(4, 0),)), 0), Hearsay(STARS).go(2)]
[1, None, True, 3, ((0, 2), (1, 2))]
"""

MODULES = (webs, pools, links, groups, words)


def known_names():
    """The names that the examples use."""
    known = {}
    for module in MODULES:
        known.update(vars(module))
    exec(VALUES, known)
    return known


class Examples(unittest.TestCase):
    def check(self, text, many):
        test = doctest.DocTestParser().get_doctest(text, known_names(), "examples", None, 0)
        told = []
        result = doctest.DocTestRunner(verbose=False).run(test, out=told.append)
        self.assertEqual((result.failed, result.attempted), (0, many), "".join(told))

    def test_webs(self):
        self.check(WEBS, 2)

    def test_pools(self):
        self.check(POOLS, 2)

    def test_links(self):
        self.check(LINKS, 2)

    def test_groups(self):
        self.check(GROUPS, 2)

    def test_words(self):
        self.check(WORDS, 2)


if __name__ == "__main__":
    unittest.main()
