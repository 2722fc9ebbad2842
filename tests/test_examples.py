"""The examples of the document, word for word."""

import doctest
import unittest

from rootshared.base import pools, webs
from rootshared.desk import desk
from rootshared.groups import groups, links
from rootshared.make import makers, steering
from rootshared.pools import families
from rootshared.programs import checks, programs, runs
from rootshared.text import shell, texts
from rootshared.words import lots, views, words

VALUES = """
RIGHT = Web(((), (0,)))
LEFT = Web(((1,), ()))
BOTH = Web(((1,), (0,)))
LINE = Pool((RIGHT, LEFT, BOTH))
STARS = star_pool(3)
"""

WEBS = """
>>> [RIGHT.roots, BOTH.parts, str(LEFT), RIGHT.joined(LEFT) == BOTH, silent_web(2).roots, chain_web(3, 1).heard]
[(0,), ((0, 1),), 'web of 2 houses: 0 hears 1', True, (), ((2,), (), (1,))]
>>> [chain_web(3, 0).then(chain_web(3, 0)).heard, star_web(3, 2).hears(0), (1, 0) in RIGHT, len(full_web(4)), RIGHT.is_within(BOTH)]
[((), (0,), (0, 1)), (0, 2), True, 12, True]
"""

POOLS = """
>>> [LINE.roots, LINE.always, str(STARS), STARS.roots, chain_pool(3).roots, muted_pool(3).roots]
[((0,), (1,), (0, 1)), (), 'pool of 3 webs on 3 houses', ((0,), (1,), (2,)), ((0,), (1,), (2,)), ((0, 1, 2), (1, 2), (0, 2), (0, 1))]
>>> [LINE.index_of(BOTH), LINE.part((0, 2)).always, LINE.is_group((2, 0)), muted_pool(2).without(0) == Pool((LEFT, RIGHT)), RIGHT in LINE]
[2, (0,), False, True, True]
"""

LINKS = """
>>> [alike(RIGHT, BOTH, LEFT), alike(RIGHT, BOTH, RIGHT), links_in(LINE, (0, 1, 2)), parts_of(LINE, (0, 2)), parts_of(STARS, (0, 1, 2))]
[True, False, ((0, 2, 1), (1, 2, 0)), ((0,), (2,)), ((0,), (1,), (2,))]
>>> [is_linked_way(LINE, (0, 1, 2), (0, 1, 2, 0, 1)), is_linked_way(LINE, (0, 1, 2), (0, 2, 1)), links_in(chain_pool(3), (0, 1, 2))]
[True, False, ((0, 1, 2), (0, 2, 1), (1, 2, 0))]
"""

GROUPS = """
>>> [splitting(LINE), closed_groups(STARS), can_agree(LINE), can_agree(LINE.part((0, 2))), common_roots(LINE, (0, 2)), can_agree(muted_pool(3))]
[(((0, 1, 2),),), ((0,), (1,), (2,)), False, True, (0,), True]
>>> [is_obstacle(LINE, ((0, 1, 2), ((0, 2, 1), (1, 2, 0)))), is_obstacle(LINE, ((0, 1, 2), ((0, 2, 1),))), is_agreement_paper(LINE.part((0, 2)), (((0, 1),),)), is_obstacle(Pool((silent_web(2),)), ((0,), ()))]
[True, False, True, True]
"""

WORDS = """
>>> [known_inputs(chain_pool(3), (0, 0)), heard_by_all(chain_pool(3), (0, 0)), heard_by_all(STARS, (1,)), first_round(LINE, (1, 0, 2), 0)]
[((0,), (0, 1), (0, 1, 2)), (0,), (1,), 2]
>>> [latest(LINE.part((0, 2)), 0), latest(LINE, 0), is_stall(LINE, 0, ((), 1)), latest(Pool((chain_web(4, 0),)), 0), Hearsay(STARS).go(2)]
[1, None, True, 3, ((0, 2), (1, 2))]
"""

VIEWS = """
>>> [equal_views(LINE, (0,), (2,)), equal_views(LINE, (0, 1), (2, 1)), first_difference(LINE, (0, 0), (0, 2), 0), view_numbers(LINE, 1), view_counts(LINE, 2)]
[(1,), (1,), 2, {(0,): (0, 0), (1,): (1, 1), (2,): (1, 0)}, (5, 5)]
"""

LOTS = """
>>> [lots_of(LINE.part((0, 1)), 1), lots_of(LINE, 1), agree_in(STARS, 1), least_rounds(LINE), least_rounds(muted_pool(3)), least_rounds(LINE.part((0, 2)))]
[(((0,),), ((1,),)), (((0,), (1,), (2,)),), True, None, 2, 1]
>>> [lot_heralds(STARS, 1), is_bar(LINE, ((0,), (2,), (1,))), is_bar(LINE, ((0,), (1,))), lot_way(STARS, (0,), (1,)), least_rounds(Pool((silent_web(1),)))]
[((0,), (1,), (2,)), True, False, None, 0]
"""

PROGRAMS = """
>>> TELL = Program(2, 5, ((0, 1), (2, 2)), {(0, (0, None)): 3, (1, (1, None)): 4, (0, (0, 2)): 3, (1, (1, 2)): 4, (2, (0, 2)): 3, (2, (1, 2)): 4, (2, (3, 2)): 3, (2, (4, 2)): 4}, {3: 0, 4: 1})
>>> [TELL.after(2, (1, 2)), TELL.after(2, (None, 2)), TELL.opposite().starts, len(TELL.without_move(2, (1, 2))), str(TELL), TELL.renumbered((1, 0)).starts]
[4, 2, ((1, 0), (2, 2)), 7, 'program for 2 houses: 5 states, 8 moves', ((2, 2), (0, 1))]
"""

RUNS = """
>>> run = Run(TELL, LINE, (1, 0))
>>> [run.go(1), run.go(0), run.decisions, run.since, str(run), run.undo(many=2), bool(run)]
[(4, 2), (4, 4), (1, 1), (1, 2), 'run of 2 houses: 2 rounds, 2 decided', (0, 1), True]
"""

CHECKS = """
>>> [is_right(TELL, LINE.part((0, 2))), slowest(TELL, LINE.part((0, 2))), configurations(TELL, LINE.part((0, 2)), (1, 0)), found_fault(TELL, LINE)[0]]
[True, 1, ((1, 2), (4, 4)), 'round']
>>> [is_fault(TELL, LINE, ("round", (1, 0), (1,), (1,))), is_fault(TELL, LINE, ("round", (1, 0), (), (1,))), len(right_paper(TELL, LINE.part((0, 2))))]
[True, False, 4]
"""

MAKERS = """
>>> [is_right(made_program(STARS, 1), STARS), slowest(made_program(muted_pool(3), 2), muted_pool(3)), is_right(herald_program(LINE.part((0, 2)), 0), LINE.part((0, 2)))]
[True, 2, True]
"""

STEERING = """
>>> [decisions_ahead(TELL, LINE, (1, 0), (0, 1, 2), ()), open_inputs(TELL, LINE, (0, 1, 2)), is_fault(TELL, LINE, driven_fault(TELL, LINE, (0, 1, 2))), str(Drive(TELL, LINE, (0, 2), (1, 0)))]
[(1,), (), True, 'drive: 0 rounds, ahead 1']
"""

FAMILIES = """
>>> [agreeing_groups(LINE), greatest_agreeing(LINE), least_failing(LINE), strikes(LINE), strikes(STARS)]
[((0,), (0, 1), (0, 2), (1,), (1, 2), (2,)), ((0, 1), (0, 2), (1, 2)), ((0, 1, 2),), ((0,), (1,), (2,)), ((),)]
>>> gathering = Gathering(2)
>>> [product_pool(Pool((RIGHT, LEFT))) == Pool((RIGHT, BOTH, LEFT)), gathering.put(RIGHT), gathering.put(BOTH), len(gathering), twin_numbers(Pool((RIGHT,)), Pool((LEFT,)))]
[True, ((0,),), ((0,), (1,)), 2, (1, 0)]
"""

TEXTS = """
>>> [write_pool(LINE), read_web("1,2 - 0").heard, read_pool("- 0 | 1 -") == LINE.part((0, 1)), write_web(silent_web(1))]
['- 0 | 1 - | 1 0', ((1, 2), (), (0,)), True, '-']
>>> shell = Shell()
>>> [shell("enter line - 0 | 1 -"), shell("pin able line"), shell("add line 1 0"), shell("groups line"), shell("obstacle line"), shell("grade nobody"), len(shell)]
['line - 1', 'none', 'refused able line', '0, 1', 'none', 'unknown nobody', 4]
"""

MODULES = (webs, pools, links, groups, words, views, lots, programs, runs, checks, makers, steering, families, desk, texts, shell)


def known_names():
    """The names that the examples use."""
    known = {}
    for module in MODULES:
        known.update(vars(module))
    exec(VALUES, known)
    return known


class Examples(unittest.TestCase):
    def check(self, text, many):
        test = doctest.DocTestParser().get_doctest(text, known_names(), "examples", None, 0)
        told = []
        result = doctest.DocTestRunner(verbose=False).run(test, out=told.append)
        self.assertEqual((result.failed, result.attempted), (0, many), "".join(told))

    def test_webs(self):
        self.check(WEBS, 2)

    def test_pools(self):
        self.check(POOLS, 2)

    def test_links(self):
        self.check(LINKS, 2)

    def test_groups(self):
        self.check(GROUPS, 2)

    def test_words(self):
        self.check(WORDS, 2)

    def test_views(self):
        self.check(VIEWS, 1)

    def test_lots(self):
        self.check(LOTS, 2)

    def test_programs(self):
        self.check(PROGRAMS, 2)

    def test_runs(self):
        # They use the program of the examples ahead of them.
        self.check(PROGRAMS + RUNS, 4)

    def test_checks(self):
        self.check(PROGRAMS + CHECKS, 4)

    def test_makers(self):
        self.check(MAKERS, 1)

    def test_steering(self):
        self.check(PROGRAMS + STEERING, 3)

    def test_families(self):
        self.check(FAMILIES, 3)

    def test_texts_and_the_shell(self):
        self.check(TEXTS, 3)


if __name__ == "__main__":
    unittest.main()
