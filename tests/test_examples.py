"""The examples of the document, word for word."""

import doctest
import unittest

import rootshared.base.pools
import rootshared.base.webs

VALUES = """
RIGHT = Web(((), (0,)))
LEFT = Web(((1,), ()))
BOTH = Web(((1,), (0,)))
LINE = Pool((RIGHT, LEFT, BOTH))
STARS = star_pool(3)
"""

WEBS = """
>>> [RIGHT.roots, BOTH.parts, str(LEFT), RIGHT.joined(LEFT) == BOTH, silent_web(2).roots, chain_web(3, 1).heard]
[(0,), ((0, 1),), 'web of 2 houses: 0 hears 1', True, (), ((2,), (), (1,))]
>>> [chain_web(3, 0).then(chain_web(3, 0)).heard, star_web(3, 2).hears(0), (1, 0) in RIGHT, len(full_web(4)), RIGHT.is_within(BOTH)]
[((), (0,), (0, 1)), (0, 2), True, 12, True]
"""

POOLS = """
>>> [LINE.roots, LINE.always, str(STARS), STARS.roots, chain_pool(3).roots, muted_pool(3).roots]
[((0,), (1,), (0, 1)), (), 'pool of 3 webs on 3 houses', ((0,), (1,), (2,)), ((0,), (1,), (2,)), ((0, 1, 2), (1, 2), (0, 2), (0, 1))]
>>> [LINE.index_of(BOTH), LINE.part((0, 2)).always, LINE.is_group((2, 0)), muted_pool(2).without(0) == Pool((LEFT, RIGHT)), RIGHT in LINE]
[2, (0,), False, True, True]
"""


def names():
    """The names that the examples use."""
    known = {}
    for module in (rootshared.base.webs, rootshared.base.pools):
        known.update(vars(module))
    exec(VALUES, known)
    return known


class Examples(unittest.TestCase):
    def check(self, text, many):
        test = doctest.DocTestParser().get_doctest(text, names(), "examples", None, 0)
        told = []
        result = doctest.DocTestRunner(verbose=False).run(test, out=told.append)
        self.assertEqual((result.failed, result.attempted), (0, many), "".join(told))

    def test_webs(self):
        self.check(WEBS, 2)

    def test_pools(self):
        self.check(POOLS, 2)


if __name__ == "__main__":
    unittest.main()
