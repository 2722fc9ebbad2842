"""Pools [0.1] to [0.8]."""

import unittest
from itertools import product

from rootshared.base.pools import MAX_HOUSES, MAX_WEBS, Pool, chain_pool, muted_pool, star_pool
from rootshared.base.webs import Web, chain_web, full_web, silent_web, star_web
from rootshared.errors import InvalidGroup, InvalidOperation, InvalidPool, InvalidWeb, TooMany
from tests.helpers import (BOTH, HUNDRED_DIGITS, LEFT, LINE, RIGHT, SIXTY_DIGITS, Checks, all_heard, odd_values,
                           slow_roots, wrong_numbers, wrong_orders, wrong_webs)

NINE = tuple(Web(heard) for heard in all_heard(3, 7))[:9]
FULL = Pool(NINE[:8])


def heard_of(pool):
    return [web.heard for web in pool.webs]


def pools():
    """Pools of one to eight webs, with one to five houses."""
    yield Pool((silent_web(1),))
    for size, step in ((2, 1), (3, 9), (4, 577), (5, 140009)):
        webs = tuple(Web(heard) for heard in all_heard(size, step))
        for many in range(1, min(8, len(webs)) + 1):
            yield Pool(webs[:many])
            yield Pool(webs[-many:])
    yield from (LINE, FULL, star_pool(4), chain_pool(5), muted_pool(3))


class MakingPools(Checks):
    def test_one_to_eight_webs(self):
        for many in range(1, 9):
            pool = Pool(NINE[:many])
            self.same(pool.webs, NINE[:many])
            self.same((len(pool), pool.size), (many, 3))

    def test_none_and_nine_webs(self):
        self.refused(InvalidPool, Pool, ())
        self.refused(InvalidPool, Pool, NINE)
        self.refused(InvalidPool, Pool, NINE + NINE)

    def test_a_web_twice(self):
        self.refused(InvalidPool, Pool, (RIGHT, RIGHT))
        self.refused(InvalidPool, Pool, (RIGHT, LEFT, Web(((), (0,)))))
        self.refused(InvalidPool, Pool, NINE[:7] + NINE[3:4])

    def test_unlike_sizes(self):
        self.refused(InvalidPool, Pool, (RIGHT, silent_web(3)))
        self.refused(InvalidPool, Pool, (silent_web(1), silent_web(2)))
        self.refused(InvalidPool, Pool, NINE[:4] + (full_web(4),))

    def test_values_that_are_no_webs(self):
        for value in odd_values():
            if not isinstance(value, Web):
                for webs in ((value,), (value, RIGHT), (RIGHT, value), (RIGHT, value, LEFT), (value, value)):
                    self.refused(InvalidPool, Pool, webs)

    def test_values_that_are_no_tuples(self):
        for value in odd_values() + [[RIGHT], [RIGHT, LEFT], {0: RIGHT}, RIGHT, LINE, (LINE,), ((RIGHT, LEFT),)]:
            if not (isinstance(value, tuple) and value and all(isinstance(web, Web) for web in value)):
                self.refused(InvalidPool, Pool, value)

    def test_houses_of_the_limits(self):
        self.same(Pool((full_web(MAX_HOUSES),)).size, 5)
        self.refused(InvalidWeb, Web, ((),) * (MAX_HOUSES + 1))


class WhatPoolsTell(Checks):
    def test_roots_and_always(self):
        for pool in pools():
            roots = tuple(slow_roots(web.heard) for web in pool.webs)
            self.same(pool.roots, roots)
            self.same(pool.always, tuple(house for house in range(pool.size) if all(house in row for row in roots)))

    def test_always_by_hand(self):
        self.same((LINE.always, LINE.part((1, 2)).always, LINE.part((2,)).always), ((), (1,), (0, 1)))
        self.same((Pool((silent_web(2), BOTH)).roots, Pool((silent_web(2), BOTH)).always), (((), (0, 1)), ()))

    def test_index_of(self):
        for pool in pools():
            for index, web in enumerate(pool.webs):
                self.same(pool.index_of(Web(web.heard)), index)

    def test_index_of_what_is_no_web(self):
        for value in odd_values():
            if not isinstance(value, Web):
                self.refused(InvalidWeb, LINE.index_of, value)

    def test_index_of_a_web_that_is_not_there(self):
        for web in (silent_web(2), silent_web(1), full_web(3)):
            self.refused(InvalidOperation, LINE.index_of, web)
        self.refused(InvalidOperation, LINE.part((0, 2)).index_of, LEFT)

    def test_groups(self):
        for value in [row for many in range(5) for row in product(range(-1, 4), repeat=many)]:
            wanted = 0 < len(value) and all(0 <= index < 3 for index in value)
            wanted = wanted and all(low < high for low, high in zip(value, value[1:]))
            self.assertIs(LINE.is_group(value), wanted, value)
        self.assertIs(FULL.is_group((0, 1, 2, 3, 4, 5, 6, 7)), True)
        self.assertIs(FULL.is_group((0, 1, 2, 3, 4, 5, 6, 7, 8)), False)

    def test_is_group_accepts_every_value(self):
        near = [(True,), (False,), (False, True), (0, True), (False, 1), (0, None), ("0",), (0, "1"), ((0,),), ([],)]
        near.extend([[0], [0, 1], {0: 1}, (0, HUNDRED_DIGITS), (SIXTY_DIGITS,), (-HUNDRED_DIGITS, 0), (RIGHT,), LINE])
        right = ["(0,)", "(0, 1)", "(0, 1, 2)"]
        for value in near + odd_values():
            self.assertIs(LINE.is_group(value), repr(value) in right, value)


class ChangedPools(Checks):
    def test_with_web(self):
        for many in range(1, 8):
            pool = Pool(NINE[:many])
            self.same(pool.with_web(NINE[many]), Pool(NINE[:many + 1]))
            self.same(pool.webs, NINE[:many])

    def test_with_what_is_no_web_of_the_same_size(self):
        for pool in (LINE, FULL):
            for value in wrong_webs(pool.size):
                self.refused(InvalidWeb, pool.with_web, value)

    def test_with_a_web_that_is_there(self):
        self.refused(InvalidOperation, LINE.with_web, Web(((1,), ())))
        # The pool is full as well, but that comes behind.
        for web in FULL.webs:
            self.refused(InvalidOperation, FULL.with_web, web)

    def test_with_a_web_too_many(self):
        self.same(self.refused(TooMany, FULL.with_web, NINE[8]).limit, 8)
        self.same(MAX_WEBS, 8)
        self.refused(InvalidWeb, FULL.with_web, full_web(4))

    def test_without(self):
        for index in range(8):
            self.same(FULL.without(index).webs, NINE[:index] + NINE[index + 1:8])
        self.same(LINE.without(1), Pool((RIGHT, BOTH)))
        self.same(len(FULL), 8)

    def test_without_what_is_no_index(self):
        for pool in (LINE, FULL, Pool((RIGHT,))):
            for value in wrong_numbers(0, len(pool) - 1):
                self.refused_number(value, pool.without, value)

    def test_without_the_only_one(self):
        self.refused(InvalidOperation, Pool((RIGHT,)).without, 0)
        self.same(Pool((RIGHT, LEFT)).without(0).webs, (LEFT,))

    def test_part(self):
        self.same(LINE.part((0,)), Pool((RIGHT,)))
        self.same(LINE.part((1, 2)), Pool((LEFT, BOTH)))
        self.same(LINE.part((0, 1, 2)), LINE)
        self.same(FULL.part((1, 4, 7)).webs, (NINE[1], NINE[4], NINE[7]))

    def test_part_of_no_group(self):
        right = ["(0,)", "(0, 1)", "(0, 1, 2)"]
        for value in odd_values() + [(), (2, 0), (0, 0), (3,), (0, 3), (-1,), (True,), (False, True), [0], (0, "1")]:
            if repr(value) not in right:
                self.refused(InvalidGroup, LINE.part, value)

    def test_reordered(self):
        self.same(LINE.reordered((2, 0, 1)), Pool((BOTH, RIGHT, LEFT)))
        self.same(LINE.reordered((0, 1, 2)), LINE)
        self.same(FULL.reordered((1, 2, 3, 4, 5, 6, 7, 0)).webs, NINE[1:8] + NINE[:1])

    def test_reordered_by_no_order(self):
        for many in (1, 2, 3, 8):
            for value in wrong_orders(many):
                self.refused(InvalidOperation, Pool(NINE[:many]).reordered, value)

    def test_renumbered(self):
        self.same(LINE.renumbered((1, 0)), Pool((LEFT, RIGHT, BOTH)))
        for pool in pools():
            numbers = tuple(range(1, pool.size)) + (0,)
            self.same(list(pool.renumbered(numbers)), [web.renumbered(numbers) for web in pool.webs])
        self.same(star_pool(3).renumbered((1, 2, 0)).webs, (star_web(3, 1), star_web(3, 2), star_web(3, 0)))

    def test_renumbered_by_no_new_numbers(self):
        for pool in (Pool((silent_web(1),)), LINE, FULL, star_pool(5)):
            for value in wrong_orders(pool.size):
                self.refused(InvalidOperation, pool.renumbered, value)


class PoolsAsValues(Checks):
    def test_items(self):
        for pool in pools():
            self.same([pool[index] for index in range(len(pool))], list(pool.webs))

    def test_no_item(self):
        for pool in (LINE, FULL, Pool((RIGHT,))):
            for value in wrong_numbers(0, len(pool) - 1):
                self.refused_number(value, lambda index, rows=pool: rows[index], value)

    def test_webs_in_a_pool(self):
        for value in odd_values() + [LEFT, BOTH, silent_web(2), LINE, RIGHT.heard, (RIGHT,), "web"]:
            wanted = isinstance(value, Web) and value.heard in heard_of(LINE)
            self.assertIs(value in LINE, wanted)
        self.assertIs(Web(((1,), (0,))) in LINE, True)
        self.assertIs(Web(((1,), (0,))) in LINE.part((0, 1)), False)

    def test_iteration(self):
        for pool in pools():
            self.same(list(pool), list(pool.webs))
            self.same([(one, other) for one in pool for other in pool], list(product(pool.webs, repeat=2)))
        first, *others = LINE
        self.same((first, others), (RIGHT, [LEFT, BOTH]))

    def test_equal(self):
        found = list(pools())
        for one in found:
            for other in found + [Pool(one.webs), Pool(tuple(Web(web.heard) for web in one.webs))]:
                self.assertIs(one == other, heard_of(one) == heard_of(other))
                self.assertIs(one != other, heard_of(one) != heard_of(other))
        self.assertIs(LINE == LINE.reordered((1, 0, 2)), False)
        self.assertIs(LINE != LINE.part((0, 1)), True)

    def test_equal_accepts_every_value(self):
        pool = Pool((RIGHT, LEFT))
        for value in odd_values() + [pool.webs, list(pool.webs), RIGHT, str(pool)]:
            wanted = isinstance(value, Pool) and heard_of(value) == heard_of(pool)
            self.assertIs(pool == value, wanted)
            self.assertIs(value == pool, wanted)
            self.assertIs(pool != value, not wanted)
            self.assertIs(value != pool, not wanted)

    def test_text(self):
        self.same(str(LINE), "pool of 3 webs on 2 houses")
        self.same(str(Pool((silent_web(1),))), "pool of 1 webs on 1 houses")
        self.same(str(FULL), "pool of 8 webs on 3 houses")

    def test_calls_change_nothing(self):
        pool = Pool(NINE[:4])
        for _ in range(2):
            told = (pool.with_web(NINE[5]), pool.without(0), pool.part((1, 3)), pool.reordered((3, 2, 1, 0)))
            self.same(told[0].webs, NINE[:4] + NINE[5:6])
            self.same([web.heard for web in told[3]], [web.heard for web in NINE[3::-1]])
            self.same((pool.webs, len(pool), pool.size), (NINE[:4], 4, 3))


class MadePools(Checks):
    def test_stars_and_chains(self):
        for size in (2, 3, 4, 5):
            self.same(star_pool(size).webs, tuple(star_web(size, house) for house in range(size)))
            self.same(chain_pool(size).webs, tuple(chain_web(size, house) for house in range(size)))
        self.same(heard_of(chain_pool(3)), [((), (0,), (1,)), ((2,), (), (1,)), ((2,), (0,), ())])
        self.same(heard_of(star_pool(2)), [((), (0,)), ((1,), ())])

    def test_muted(self):
        self.same(muted_pool(2).webs, (BOTH, LEFT, RIGHT))
        self.same(heard_of(muted_pool(3))[1:], [((1, 2), (2,), (1,)), ((2,), (0, 2), (0,)), ((1,), (0,), (0, 1))])
        for size in (2, 3, 4, 5):
            pool = muted_pool(size)
            self.same((len(pool), pool[0]), (size + 1, full_web(size)))
            for muted in range(size):
                wanted = [set(range(size)) - {house, muted} for house in range(size)]
                self.same(pool[muted + 1].heard, tuple(tuple(sorted(row)) for row in wanted))

    def test_wrong_sizes(self):
        for call in (star_pool, chain_pool, muted_pool):
            for value in wrong_numbers(2, 5):
                self.refused_number(value, call, value)


if __name__ == "__main__":
    unittest.main()
