"""Parts of pools [13.1], and pools made of others [13.2]."""

import itertools
import unittest

from rootshared.base.pools import Pool, chain_pool, muted_pool, star_pool
from rootshared.base.webs import Web, chain_web, full_web, silent_web, star_web
from rootshared.errors import InvalidOperation, InvalidPool, TooMany
from rootshared.pools.families import (agreeing_groups, greatest_agreeing, is_twin, least_failing, merged_pool,
                                       product_pool, strikes, twin_numbers)
from rootshared.words.lots import agree_in
from tests.helpers import (BOTH, LEFT, LINE, RIGHT, Checks, odd_values, repr_of, slow_known, without_selves, wrong_orders,
                           wrong_pools, wrong_pools_for)
from tests.slow import NO_ROOTS, drawn_pools, groups_of, known_pools, near, rows_of, slow_can_agree, small_pools

SILENT_PAIR = Pool((silent_web(4), Web(((1,), (0,), (), ()))))


def pools():
    found = list(small_pools()) + known_pools() + [SILENT_PAIR, Pool((silent_web(3),))]
    found.extend(drawn_pools(131, (2, 3, 4), (1, 2, 3, 4), 4))
    found.extend(drawn_pools(132, (3, 4), (5, 6), 4))
    return found


def slow_agreeing(pool):
    rows = rows_of(pool)
    return [group for group in groups_of(len(pool)) if slow_can_agree(tuple(rows[index] for index in group))]


class Parts(Checks):
    def test_groups_that_agree(self):
        found = {True: 0, False: 0}
        for pool in pools():
            agreeing = slow_agreeing(pool)
            found[bool(agreeing)] += 1
            self.same(agreeing_groups(pool), tuple(sorted(agreeing)))
            greatest = [group for group in agreeing if not any(set(group) < set(other) for other in agreeing)]
            self.same(greatest_agreeing(pool), tuple(sorted(greatest)))
        self.assertTrue(min(found.values()) >= 3, found)

    def test_groups_that_do_not(self):
        found = 0
        for pool in pools():
            agreeing = slow_agreeing(pool)
            failing = [group for group in groups_of(len(pool)) if group not in agreeing]
            least = [group for group in failing if all(set(other) == set(group) or other in agreeing
                                                      for other in groups_of(len(pool)) if set(other) <= set(group))]
            self.same(least_failing(pool), tuple(sorted(least)))
            found += len(least)
        self.assertTrue(found > 50)

    def test_strikes(self):
        told = {}
        for pool in pools():
            agreeing, webs = slow_agreeing(pool), range(len(pool))
            if not agreeing:
                self.refused(InvalidOperation, strikes, pool)
                continue
            ways = [tuple(sorted(set(webs) - set(group))) for group in agreeing]
            least = min(len(way) for way in ways)
            told[least] = told.get(least, 0) + 1
            self.same(strikes(pool), tuple(sorted(way for way in ways if len(way) == least)))
        self.assertTrue({0, 1, 2} <= set(told), told)

    def test_by_hand(self):
        self.same((agreeing_groups(NO_ROOTS.part((0,))), greatest_agreeing(SILENT_PAIR), least_failing(SILENT_PAIR)),
                  ((), (), ((0,), (1,))))
        self.refused(InvalidOperation, strikes, SILENT_PAIR)
        self.refused(InvalidOperation, strikes, Pool((silent_web(2),)))
        self.same(strikes(Pool((silent_web(1),))), ((),))
        self.same((strikes(muted_pool(3)), strikes(muted_pool(2)), strikes(chain_pool(3))), (((),), ((0,), (1,), (2,)), ((0,), (1,), (2,))))

    def test_eight_webs(self):
        pool = Pool(tuple(star_web(5, house) for house in range(5)) + tuple(chain_web(5, house) for house in range(3)))
        self.same(agreeing_groups(pool), tuple(sorted(slow_agreeing(pool))))

    def test_groups_within_groups_that_agree_do(self):
        for pool in pools():
            agreeing = agreeing_groups(pool)
            for group in agreeing:
                for many in range(1, len(group)):
                    self.assertTrue(set(itertools.combinations(group, many)) <= set(agreeing))

    def test_refusals(self):
        for call in (agreeing_groups, greatest_agreeing, least_failing, strikes, product_pool):
            self.check_refusals(call, (LINE,), ((InvalidPool, wrong_pools()),))


def slow_product(pool):
    """The webs of the product pool, each once."""
    found = []
    for first, second in itertools.product(rows_of(pool), repeat=2):
        heard = without_selves(slow_known([first, second]))
        if heard not in found:
            found.append(heard)
    return tuple(found)


class Products(Checks):
    def test_product_pool(self):
        told = {True: 0, False: 0}
        for pool in pools() + list(drawn_pools(133, (3, 4, 5), (2, 3, 4), 10)):
            wanted = slow_product(pool)
            told[len(wanted) > 8] += 1
            if len(wanted) > 8:
                self.assertEqual(self.refused(TooMany, product_pool, pool).limit, 8)
            else:
                self.same(rows_of(product_pool(pool)), wanted)
        self.assertTrue(min(told.values()) > 10, told)

    def test_products_by_hand(self):
        self.same(rows_of(product_pool(Pool((RIGHT, LEFT)))), (RIGHT.heard, BOTH.heard, LEFT.heard))
        self.same(product_pool(Pool((silent_web(5),))), Pool((silent_web(5),)))
        self.same(product_pool(Pool((chain_web(3, 0),))).webs[0].heard, ((), (0,), (0, 1)))

    def test_merged_pool(self):
        found = pools()
        told = {}
        for one, other in list(itertools.product(found[::3], found[::4])):
            if one.size != other.size:
                self.refused(InvalidPool, merged_pool, one, other)
                kind = InvalidPool
            else:
                rows = list(rows_of(one)) + [heard for heard in rows_of(other) if heard not in rows_of(one)]
                kind = len(rows) > 8
                if kind:
                    self.assertEqual(self.refused(TooMany, merged_pool, one, other).limit, 8)
                else:
                    self.same(rows_of(merged_pool(one, other)), tuple(rows))
            told[kind] = told.get(kind, 0) + 1
        self.assertTrue(set(told) == {InvalidPool, True, False} and min(told.values()) > 10, told)

    def test_merged_by_hand(self):
        self.same(merged_pool(LINE, LINE), LINE)
        self.same(merged_pool(LINE.part((2,)), Pool((LEFT, BOTH, RIGHT))), Pool((BOTH, LEFT, RIGHT)))
        eight = Pool(tuple(star_web(5, house) for house in range(5)) + tuple(chain_web(5, house) for house in range(3)))
        self.same(merged_pool(eight, eight.part((3, 5))), eight)
        self.same(merged_pool(eight.part((1,)), eight.without(1)), eight.reordered((1, 0, 2, 3, 4, 5, 6, 7)))
        self.assertEqual(self.refused(TooMany, merged_pool, eight, Pool((full_web(5),))).limit, 8)
        self.refused(InvalidPool, merged_pool, eight, chain_pool(4))

    def test_refusals(self):
        kinds = ((InvalidPool, wrong_pools()), (InvalidPool, wrong_pools_for(2)))
        self.check_refusals(merged_pool, (LINE, LINE), kinds)
        before = repr_of(LINE)
        product_pool(LINE)
        merged_pool(LINE, Pool((silent_web(2),)))
        self.assertEqual(repr_of(LINE), before)

    def test_rounds_with_the_product(self):
        told, back = set(), set()
        for pool in pools():
            if len(slow_product(pool)) <= 8 and len(pool) ** 4 <= 300:
                for rounds in (0, 1, 2):
                    with_product = agree_in(product_pool(pool), rounds)
                    told.add(with_product)
                    self.assertTrue(agree_in(pool, 2 * rounds) or not with_product)
                    back.add(with_product or not agree_in(pool, 2 * rounds))
        self.assertEqual((told, back), ({True, False}, {True, False}))


def slow_twins(one, other):
    """All tuples with a new number for each house by which the webs of the one pool are those of the other."""
    if one.size != other.size:
        return []
    wanted = {frozenset(pairs_of(heard)) for heard in rows_of(other)}
    found = []
    for numbers in itertools.permutations(range(one.size)):
        webs = {frozenset((numbers[house], numbers[source]) for house, source in pairs_of(heard)) for heard in rows_of(one)}
        if webs == wanted:
            found.append(numbers)
    return found


def pairs_of(heard):
    return [(house, source) for house, row in enumerate(heard) for source in row]


class Twins(Checks):
    def pairs(self):
        found = pools()
        for place, pool in enumerate(found):
            numbers = list(itertools.permutations(range(pool.size)))[place % 2::2][-1]
            order = tuple(range(len(pool)))[::-1]
            yield pool, pool.renumbered(numbers).reordered(order)
            yield pool, found[place - 1]
            yield pool, pool.renumbered(numbers).part(order[::-1][:-1] or (0,))
            yield pool, pool

    def test_against_a_slow_way(self):
        told = {}
        for one, other in self.pairs():
            right = slow_twins(one, other)
            told[len(right)] = told.get(len(right), 0) + 1
            numbers = twin_numbers(one, other)
            if right:
                self.assertIn(numbers, right)
                self.assertIs(numbers.__class__, tuple)
            else:
                self.assertIsNone(numbers)
            for value in itertools.permutations(range(max(one.size, other.size))):
                self.assertIs(is_twin(one, other, value), value in right)
            for value in right[:1]:
                for changed in near(value):
                    self.assertIs(is_twin(one, other, changed), repr(changed) in [repr(row) for row in right])
        self.assertTrue({0, 1, 2, 6} <= set(told), told)

    def test_by_hand(self):
        self.same((twin_numbers(Pool((RIGHT,)), Pool((LEFT,))), twin_numbers(Pool((RIGHT,)), Pool((BOTH,)))), ((1, 0), None))
        self.assertIsNone(twin_numbers(star_pool(3), star_pool(2)))
        self.assertIsNone(twin_numbers(star_pool(3), star_pool(3).part((0, 1))))
        self.assertIsNone(twin_numbers(star_pool(3).part((0, 1)), star_pool(3)))
        for numbers in itertools.permutations(range(3)):
            self.assertIs(is_twin(star_pool(3), star_pool(3).reordered((2, 0, 1)), numbers), True)
        self.assertIs(is_twin(chain_pool(3), chain_pool(3), (1, 2, 0)), True)
        self.assertIs(is_twin(chain_pool(3), chain_pool(3), (1, 0, 2)), False)
        self.assertIs(is_twin(star_pool(3), star_pool(2), (1, 0)), False)
        self.assertIs(is_twin(star_pool(2), star_pool(3), (1, 0)), False)
        self.same(twin_numbers(Pool((silent_web(1),)), Pool((silent_web(1),))), (0,))

    def test_no_other_value_is_one(self):
        for value in wrong_orders(3) + odd_values():
            if not (isinstance(value, tuple) and repr(value) in [repr(row) for row in itertools.permutations(range(3))]):
                self.assertIs(is_twin(star_pool(3), star_pool(3), value), False)

    def test_refusals(self):
        kinds = ((InvalidPool, wrong_pools()), (InvalidPool, wrong_pools()))
        self.check_refusals(twin_numbers, (LINE, LINE), kinds)
        self.check_refusals(is_twin, (LINE, LINE, (0, 1)), kinds + (None,))


if __name__ == "__main__":
    unittest.main()
