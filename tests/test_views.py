"""Views [0.11], [6.1], [6.2]."""

import itertools
import random
import unittest

from rootshared.base.pools import Pool, chain_pool, star_pool
from rootshared.base.webs import Web, full_web, silent_web
from rootshared.errors import InvalidNumber, InvalidOperation, InvalidPool, InvalidWord, TooMany
from rootshared.groups.links import alike
from rootshared.words.views import equal_views, first_difference, same_sight, view_counts, view_numbers
from rootshared.words.words import known_inputs
from tests.helpers import BOTH, LEFT, LINE, RIGHT, Checks, all_heard, wrong_numbers, wrong_pools, wrong_words
from tests.slow import (ASIDE, NO_ROOTS, drawn_pools, rows_of, slow_shared, slow_views, slow_words, small_pools)

POOLS = (InvalidPool, wrong_pools())
ROUNDS = (InvalidNumber, wrong_numbers(0, 12))
EIGHT = Pool(tuple(Web(heard) for heard in all_heard(3, 9))[:8])


def pools():
    yield from small_pools()
    yield from (ASIDE, NO_ROOTS, star_pool(3), chain_pool(3))
    yield from drawn_pools(61, (2, 3), (2, 3, 4), 3)
    yield from drawn_pools(62, (3,), (5,), 3)


def rounds_for(pool):
    """Numbers of rounds with at most 64 words."""
    return [rounds for rounds in range(4) if len(pool) ** rounds <= 64]


class PairsOfWords(Checks):
    def test_equal_views_of_all_words(self):
        for pool in pools():
            for rounds in rounds_for(pool):
                for one, other in itertools.product(slow_words(len(pool), rounds), repeat=2):
                    self.same(equal_views(pool, one, other), slow_shared(rows_of(pool), one, other))

    def test_first_difference_of_all_words(self):
        for pool in pools():
            for rounds in rounds_for(pool):
                for one, other in list(itertools.product(slow_words(len(pool), rounds), repeat=2))[::3]:
                    self.check_difference(pool, one, other)

    def check_difference(self, pool, one, other):
        shared = [slow_shared(rows_of(pool), one[:at], other[:at]) for at in range(len(one) + 1)]
        for house in range(pool.size):
            unlike = [at for at, row in enumerate(shared) if house not in row]
            self.same(first_difference(pool, one, other, house), unlike[0] if unlike else None)

    def test_longer_words(self):
        chance = random.Random(63)
        for pool in list(drawn_pools(64, (2, 3), (3, 4), 4)) + [LINE]:
            for _ in range(30):
                one = tuple(chance.randrange(len(pool)) for _ in range(6))
                at = chance.randrange(6)
                other = one[:at] + (chance.randrange(len(pool)),) + one[at + 1:]
                self.same(equal_views(pool, one, other), slow_shared(rows_of(pool), one, other))
                self.check_difference(pool, one, other)

    def test_words_of_no_round_and_of_twelve(self):
        for pool in pools():
            everybody = tuple(range(pool.size))
            self.same(equal_views(pool, (), ()), everybody)
            self.same(equal_views(pool, (0,) * 12, (0,) * 12), everybody)
            self.same([first_difference(pool, (), (), house) for house in everybody], [None] * pool.size)
        self.same(equal_views(LINE, (0,) * 12, (0,) * 11 + (2,)), (1,))
        self.same(equal_views(LINE, (0,) + (1,) * 11, (2,) + (1,) * 11), (1,))
        self.same(equal_views(LINE, (0,) + (0,) * 11, (2,) + (0,) * 11), ())
        self.same(first_difference(LINE, (0,) * 12, (0,) * 11 + (2,), 0), 12)
        self.same(first_difference(LINE, (0,) + (0,) * 11, (2,) + (0,) * 11, 1), 2)

    def test_unlike_lengths_come_behind_all_else(self):
        for one, other in (((), (0,)), ((0, 1), (0,)), ((2,) * 12, (2,) * 11)):
            self.refused(InvalidOperation, equal_views, LINE, one, other)
            self.refused(InvalidOperation, first_difference, LINE, one, other, 0)
            self.refused_number(2, first_difference, LINE, one, other, 2)
            self.refused(InvalidWord, equal_views, LINE, one, (*other, 3))
            self.refused(InvalidPool, equal_views, LINE.webs, one, other)

    def test_refusals(self):
        for pool in (LINE, Pool((silent_web(1),)), EIGHT):
            words = (InvalidWord, wrong_words(pool))
            houses = (InvalidNumber, wrong_numbers(0, pool.size - 1))
            self.check_refusals(equal_views, (pool, (0,), (0,)), (POOLS, words, words))
            self.check_refusals(first_difference, (pool, (0,), (0,), 0), (POOLS, words, words, houses))


class Numbers(Checks):
    def test_view_numbers(self):
        for pool in pools():
            for rounds in rounds_for(pool):
                self.check_numbers(pool, rounds)

    def check_numbers(self, pool, rounds):
        views = slow_views(rows_of(pool), rounds)
        numbers = view_numbers(pool, rounds)
        self.same(list(numbers), sorted(views))
        for house in range(pool.size):
            met = []
            for word in sorted(views):
                if views[word][house] not in met:
                    met.append(views[word][house])
                self.same(numbers[word][house], met.index(views[word][house]))

    def test_view_counts(self):
        for pool in pools():
            for rounds in rounds_for(pool):
                views = list(slow_views(rows_of(pool), rounds).values())
                self.same(view_counts(pool, rounds), tuple(len({row[house] for row in views}) for house in range(pool.size)))

    def test_same_sight(self):
        for pool in pools():
            for rounds in rounds_for(pool)[:3]:
                views = slow_views(rows_of(pool), rounds)
                for house, word in itertools.product(range(pool.size), list(views)[::3]):
                    wanted = tuple(other for other in sorted(views) if views[other][house] == views[word][house])
                    self.same(same_sight(pool, rounds, house, word), wanted)

    def test_no_round(self):
        for pool in pools():
            self.same(view_numbers(pool, 0), {(): (0,) * pool.size})
            self.same(view_counts(pool, 0), (1,) * pool.size)
            self.same(same_sight(pool, 0, pool.size - 1, ()), ((),))

    def test_known_counts(self):
        # With the webs of two houses of which one is heard at least, both houses' views are the places of a line.
        for rounds in range(8):
            self.same(view_counts(LINE, rounds), ((3 ** rounds + 1) // 2,) * 2)
        self.same(view_counts(Pool((full_web(3),)), 12), (1, 1, 1))
        self.same(view_counts(star_pool(3), 3), (27, 27, 27))

    def test_returned_dicts_can_be_changed(self):
        numbers = view_numbers(LINE, 1)
        numbers[(0,)] = None
        del numbers[(1,)]
        self.same(view_numbers(LINE, 1), {(0,): (0, 0), (1,): (1, 1), (2,): (1, 0)})


class TooManyWords(Checks):
    def test_4096_words_are_let(self):
        for pool, rounds in ((Pool((RIGHT, LEFT)), 12), (EIGHT.part((1, 3, 4, 6)), 6), (EIGHT, 4)):
            self.same(len(view_numbers(pool, rounds)), 4096)
            self.same(len(view_counts(pool, rounds)), pool.size)
            self.assertIn((0,) * rounds, same_sight(pool, rounds, 0, (0,) * rounds))
        self.same(view_numbers(Pool((RIGHT,)), 12), {(0,) * 12: (0, 0)})

    def test_more_words_are_not(self):
        # No number of webs and of rounds has between 4097 and 6560 words.
        for many, rounds in ((3, 8), (6, 5), (5, 6), (4, 7), (8, 5), (8, 12), (3, 12)):
            pool = EIGHT.part(tuple(range(many)))
            self.assertEqual(self.refused(TooMany, view_numbers, pool, rounds).limit, 4096)
            self.assertEqual(self.refused(TooMany, view_counts, pool, rounds).limit, 4096)
            self.assertEqual(self.refused(TooMany, same_sight, pool, rounds, 2, (0,) * rounds).limit, 4096)

    def test_what_comes_ahead_of_it(self):
        self.refused(InvalidPool, view_numbers, None, 12)
        self.refused_number(13, view_numbers, EIGHT, 13)
        self.refused(InvalidOperation, same_sight, EIGHT, 12, 0, (0,) * 11)
        self.refused(InvalidWord, same_sight, EIGHT, 12, 0, (8,) * 12)
        self.refused_number(3, same_sight, EIGHT, 12, 3, (0,) * 12)
        self.refused(InvalidOperation, same_sight, LINE, 1, 0, ())

    def test_pairs_of_words_have_no_such_limit(self):
        self.same(equal_views(EIGHT, (0,) * 12, (0,) * 12), (0, 1, 2))
        self.same(first_difference(EIGHT, (0,) * 12, (7,) + (0,) * 11, 0) is None, EIGHT[0].hears(0) == EIGHT[7].hears(0))

    def test_refusals(self):
        for pool in (LINE, Pool((silent_web(1),)), Pool((BOTH,))):
            words = (InvalidWord, wrong_words(pool))
            houses = (InvalidNumber, wrong_numbers(0, pool.size - 1))
            self.check_refusals(view_numbers, (pool, 1), (POOLS, ROUNDS))
            self.check_refusals(view_counts, (pool, 1), (POOLS, ROUNDS))
            self.check_refusals(same_sight, (pool, 1, 0, (0,)), (POOLS, ROUNDS, houses, words))
        kinds = (POOLS, ROUNDS, (InvalidNumber, wrong_numbers(0, 2)), (InvalidWord, wrong_words(EIGHT)))
        self.check_refusals(same_sight, (EIGHT, 12, 0, (0,) * 11), kinds)


class Promises(Checks):
    def test_by_the_round_ahead(self):
        for pool in pools():
            for rounds in rounds_for(pool)[1:]:
                for one, other in list(itertools.product(slow_words(len(pool), rounds), repeat=2))[::5]:
                    ahead = equal_views(pool, one[:-1], other[:-1])
                    webs = pool[one[-1]], pool[other[-1]]
                    wanted = [house for house in range(pool.size) if webs[0].hears(house) == webs[1].hears(house)]
                    wanted = tuple(house for house in wanted if set(webs[0].hears(house)) <= set(ahead))
                    self.same(equal_views(pool, one, other), wanted)

    def test_unlike_views_stay_unlike_and_equal_ones_know_the_same(self):
        for pool in pools():
            for rounds in rounds_for(pool)[1:]:
                for one, other in list(itertools.product(slow_words(len(pool), rounds), repeat=2))[::5]:
                    shared = equal_views(pool, one, other)
                    self.assertTrue(set(shared) <= set(equal_views(pool, one[:-1], other[:-1])))
                    for house in shared:
                        self.same(known_inputs(pool, one)[house], known_inputs(pool, other)[house])

    def test_roots_of_a_web_for_which_two_are_alike(self):
        found = 0
        for pool in pools():
            for one, other, third in itertools.product(range(len(pool)), repeat=3):
                if alike(pool[one], pool[other], pool[third]):
                    found += 1
                    for rounds in (0, 1, 2, 5, 11):
                        shared = equal_views(pool, (one,) + (third,) * rounds, (other,) + (third,) * rounds)
                        self.assertTrue(set(pool[third].roots) <= set(shared))
        self.assertTrue(found > 50)


if __name__ == "__main__":
    unittest.main()
