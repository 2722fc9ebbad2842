"""Closed groups, obstacles and papers [0.10], [0.14], [2.1], [4.1]."""

import itertools
import unittest

from rootshared.base.pools import Pool, chain_pool, muted_pool, star_pool
from rootshared.base.webs import full_web, silent_web
from rootshared.errors import InvalidGroup, InvalidOperation, InvalidPool
from rootshared.groups.groups import (agreement_paper, can_agree, closed_groups, common_roots, is_agreement_paper,
                                      is_closed, is_obstacle, obstacle, splitting)
from tests.helpers import BOTH, LEFT, LINE, RIGHT, Checks, odd_values, wrong_groups, wrong_pools
from tests.slow import (ASIDE, NO_ROOTS, drawn_pools, groups_of, is_pure, known_pools, near, rows_of, slow_can_agree,
                        slow_closed, slow_closed_groups, slow_common_roots, slow_links, slow_parts_of, small_pools)


def pools():
    yield from small_pools()
    yield from known_pools()
    yield from drawn_pools(41, (2, 3, 4), (1, 2, 3, 4), 4)
    yield from drawn_pools(42, (3, 4), (5, 6), 6)


def small_pools_of_three():
    """Pools whose papers can be gone through one by one."""
    return list(small_pools()) + [ASIDE, NO_ROOTS, star_pool(3), chain_pool(3)]


def slow_splitting(rows):
    levels = [(tuple(range(len(rows))),)]
    while len(levels) < 2 or levels[-1] != levels[-2]:
        levels.append(tuple(sorted(part for group in levels[-1] for part in slow_parts_of(rows, group))))
    return tuple(levels[:-1])


def is_group_of(value, many):
    return is_pure(value) and value in groups_of(many)


def slow_is_obstacle(pool, value):
    """Whether the value is a paper of an obstacle, by the words of the document."""
    if not isinstance(value, tuple) or not is_pure(value) or len(value) != 2:
        return False
    group, links = value
    if not is_group_of(group, len(pool)) or not isinstance(links, tuple) or slow_common_roots(rows_of(pool), group):
        return False
    right = slow_links(rows_of(pool), group)
    if not all(link in right for link in links) or list(links) != sorted(set(links)):
        return False
    return len(slow_parts_of(rows_of(pool), group, links)) == 1


def is_partition(value, many):
    """Whether the value is an ascending tuple of groups with each of so many webs in one of them."""
    if not isinstance(value, tuple) or not all(is_group_of(group, many) for group in value):
        return False
    return sorted(index for group in value for index in group) == list(range(many)) and list(value) == sorted(value)


def slow_is_agreement_paper(pool, value):
    """Whether the value is a paper that the houses can agree, by the words of the document."""
    if not isinstance(value, tuple) or not is_pure(value) or not value:
        return False
    if not all(is_partition(level, len(pool)) for level in value) or len(value[0]) > 1:
        return False
    rows = rows_of(pool)
    for level, later in zip(value, value[1:]):
        if not all(any(set(part) <= set(group) for group in level) for part in later):
            return False
        for group in level:
            for one, other, _ in slow_links(rows, group):
                if [part for part in later if one in part] != [part for part in later if other in part]:
                    return False
    return all(slow_common_roots(rows, group) for group in value[-1])


def partitions(many):
    """All ascending splittings of so many webs to groups."""
    found = [()]
    for index in range(many):
        later = []
        for groups in found:
            later.append(groups + ((index,),))
            later.extend(groups[:at] + (groups[at] + (index,),) + groups[at + 1:] for at in range(len(groups)))
        found = later
    return [tuple(sorted(groups)) for groups in found]


class Groups(Checks):
    def test_common_roots_and_closed(self):
        for pool in pools():
            for group in groups_of(len(pool)):
                self.same(common_roots(pool, group), slow_common_roots(rows_of(pool), group))
                self.assertIs(is_closed(pool, group), slow_closed(rows_of(pool), group))

    def test_a_group_of_one_web_is_closed(self):
        for pool in [Pool((silent_web(3),)), NO_ROOTS, LINE]:
            for index in range(len(pool)):
                self.assertIs(is_closed(pool, (index,)), True)
        self.same(common_roots(NO_ROOTS, (0,)), ())

    def test_splitting_and_closed_groups(self):
        for pool in pools():
            rows = rows_of(pool)
            self.same(splitting(pool), slow_splitting(rows))
            self.same(closed_groups(pool), slow_closed_groups(rows))

    def test_splittings_of_several_levels(self):
        deep = [pool for pool in drawn_pools(43, (4,), (6, 7), 150) if len(slow_splitting(rows_of(pool))) > 2]
        self.assertTrue(deep)
        for pool in deep:
            self.same(splitting(pool), slow_splitting(rows_of(pool)))
            self.same(splitting(pool)[-1], slow_closed_groups(rows_of(pool)))

    def test_closed_groups_with_a_web_in_common_are_closed_together(self):
        for pool in pools():
            closed = [group for group in groups_of(len(pool)) if is_closed(pool, group)]
            for one, other in itertools.combinations(closed, 2):
                if set(one) & set(other):
                    self.assertIs(is_closed(pool, tuple(sorted(set(one) | set(other)))), True)

    def test_can_agree(self):
        told = []
        for pool in pools():
            told.append(can_agree(pool))
            self.assertIs(told[-1], slow_can_agree(rows_of(pool)))
        self.assertEqual(set(told), {True, False})

    def test_one_web_and_one_house(self):
        self.same(splitting(Pool((silent_web(1),))), (((0,),),))
        self.assertIs(can_agree(Pool((silent_web(1),))), True)
        self.assertIs(can_agree(Pool((silent_web(2),))), False)
        self.assertIs(can_agree(Pool((full_web(5),))), True)

    def test_refusals(self):
        kind = (InvalidPool, wrong_pools())
        for pool in (LINE, Pool((silent_web(1),))):
            for call in (common_roots, is_closed):
                self.check_refusals(call, (pool, (0,)), (kind, (InvalidGroup, wrong_groups(pool))))
            for call in (splitting, closed_groups, can_agree, obstacle, agreement_paper):
                self.check_refusals(call, (pool,), (kind,))
            for call in (is_obstacle, is_agreement_paper):
                for value in (((0,), ()), None, [], (((0,),),)):
                    self.check_refusals(call, (pool, value), (kind, None))


class Obstacles(Checks):
    def test_obstacles_that_are_found(self):
        for pool in pools():
            if slow_can_agree(rows_of(pool)):
                self.refused(InvalidOperation, obstacle, pool)
            else:
                value = obstacle(pool)
                self.assertTrue(slow_is_obstacle(pool, value), value)
                self.assertIs(is_obstacle(pool, value), True)

    def test_all_groups_with_all_rows_of_links(self):
        for pool in small_pools_of_three():
            for group in groups_of(len(pool)):
                links = slow_links(rows_of(pool), group)[:7]
                for many in range(len(links) + 1):
                    for row in itertools.combinations(links, many):
                        self.assertIs(is_obstacle(pool, (group, row)), slow_is_obstacle(pool, (group, row)), (group, row))

    def test_values_near_papers(self):
        for pool in (LINE, chain_pool(3), muted_pool(2), NO_ROOTS):
            value = obstacle(pool)
            for other in near(value):
                self.assertIs(is_obstacle(pool, other), slow_is_obstacle(pool, other), other)
        for value in odd_values():
            self.assertIs(is_obstacle(LINE, value), False)
            self.assertIs(is_obstacle(LINE, ((0, 1, 2), value)), False)
            self.assertIs(is_obstacle(LINE, (value, ((0, 2, 1), (1, 2, 0)))), repr(value) == "(0, 1, 2)")

    def test_more_links_than_are_needed(self):
        pool = chain_pool(3)
        links = ((0, 1, 2), (0, 2, 1), (1, 2, 0))
        for row in [links, links[:2], links[1:], (links[0], links[2])]:
            self.assertIs(is_obstacle(pool, ((0, 1, 2), row)), True)
            self.assertIs(is_obstacle(pool, ((0, 1, 2), row[::-1])), False)
            self.assertIs(is_obstacle(pool, ((0, 1, 2), row + row[-1:])), False)
            self.assertIs(is_obstacle(pool, ((0, 1, 2), row[:1])), False)

    def test_obstacles_of_one_web(self):
        pool = Pool((BOTH, silent_web(2)))
        self.same(obstacle(pool), ((1,), ()))
        for value, wanted in ((((1,), ()), True), (((0,), ()), False), (((0, 1), ()), False), (((1,), []), False),
                              (((True,), ()), False), (([1], ()), False), ([(1,), ()], False), (((1,), ((1, 1, 1),)), False)):
            self.assertIs(is_obstacle(pool, value), wanted, value)

    def test_an_obstacle_within_a_greater_group(self):
        # Any closed group is an obstacle, not only a greatest one.
        found = 0
        for pool in drawn_pools(44, (3,), (5, 6), 40):
            rows = rows_of(pool)
            for group in [group for group in groups_of(len(rows)) if slow_closed(rows, group)]:
                if not slow_common_roots(rows, group) and group not in closed_groups(pool):
                    self.assertIs(is_obstacle(pool, (group, slow_links(rows, group))), True)
                    found += 1
        self.assertTrue(found)


class AgreementPapers(Checks):
    def test_papers_that_are_found(self):
        for pool in pools():
            if slow_can_agree(rows_of(pool)):
                value = agreement_paper(pool)
                self.assertTrue(slow_is_agreement_paper(pool, value), value)
                self.assertIs(is_agreement_paper(pool, value), True)
                self.assertLessEqual(len(value), 20)
            else:
                self.refused(InvalidOperation, agreement_paper, pool)

    def test_all_short_papers(self):
        for pool in small_pools_of_three() + [muted_pool(3)]:
            levels = partitions(len(pool))
            for many in (0, 1, 2, 3) if len(pool) < 4 else (0, 1, 2):
                for value in itertools.product(levels, repeat=many):
                    self.assertIs(is_agreement_paper(pool, value), slow_is_agreement_paper(pool, value), value)

    def test_values_near_papers(self):
        for pool in (star_pool(3), LINE.part((0, 2)), Pool((silent_web(1),)), Pool((RIGHT, LEFT))):
            for value in near(agreement_paper(pool)):
                self.assertIs(is_agreement_paper(pool, value), slow_is_agreement_paper(pool, value), value)
        for value in odd_values():
            self.assertIs(is_agreement_paper(LINE, value), False)
            self.assertIs(is_agreement_paper(star_pool(3), (((0, 1, 2),), value)), False)

    def test_levels_that_are_equal_or_split_less_far(self):
        pool = Pool((RIGHT, BOTH, LEFT)).part((0, 1))
        whole, apart = ((0, 1),), ((0,), (1,))
        for value in ((whole,), (whole,) * 30, (whole, apart), (whole, whole, apart, apart)):
            self.assertIs(is_agreement_paper(pool, value), True)
        for value in ((apart,), (apart, apart), (whole, apart, whole), (apart, whole), (whole, ((0,),)), (whole, ())):
            self.assertIs(is_agreement_paper(pool, value), False)
        stars = star_pool(3)
        apart = ((0,), (1,), (2,))
        for middle in (((0, 1), (2,)), ((0,), (1, 2)), ((0, 2), (1,))):
            self.assertIs(is_agreement_paper(stars, (((0, 1, 2),), middle, apart)), True)
            self.assertIs(is_agreement_paper(stars, (((0, 1, 2),), middle)), False)
            self.assertIs(is_agreement_paper(stars, (((0, 1, 2),), middle[::-1], apart)), False)

    def test_links_that_are_cut(self):
        pool = Pool((RIGHT, BOTH, LEFT))
        self.assertIs(is_agreement_paper(pool, (((0, 1, 2),), ((0,), (1,), (2,)))), False)
        self.assertIs(is_agreement_paper(pool, (((0, 1, 2),), ((0, 1), (2,)))), False)

    def test_links_count_as_long_as_their_third_web_is_in_the_group(self):
        found = 0
        for pool in drawn_pools(43, (4,), (6, 7), 150):
            levels = slow_splitting(rows_of(pool))
            if len(levels) > 2 and slow_can_agree(rows_of(pool)):
                found += 1
                self.assertIs(is_agreement_paper(pool, levels), True)
                # In the first level there is a link between webs that are apart in the last one.
                self.assertIs(is_agreement_paper(pool, (levels[0], levels[-1])), False)
                self.assertIs(is_agreement_paper(pool, levels[:-1] + levels[-2:]), True)
        self.assertTrue(found)


class Promises(Checks):
    def test_known_pools(self):
        for size in (2, 3, 4, 5):
            self.assertIs(can_agree(star_pool(size)), True)
            self.assertIs(can_agree(chain_pool(size)), size < 3)
            self.assertIs(can_agree(muted_pool(size)), size > 2)
        self.assertIs(can_agree(LINE), False)
        for group in ((0, 1), (0, 2), (1, 2), (0,), (1,), (2,)):
            self.assertIs(can_agree(LINE.part(group)), True)

    def test_parts_of_a_pool_with_which_they_can_agree(self):
        for pool in pools():
            if can_agree(pool):
                for group in groups_of(len(pool)):
                    self.assertIs(can_agree(pool.part(group)), True)

    def test_no_obstacle_with_a_house_that_is_always_a_root(self):
        found = 0
        for pool in list(pools()) + list(drawn_pools(45, (3, 4), (2, 3), 40)):
            if pool.always:
                found += 1
                self.assertIs(can_agree(pool), True)
                self.refused(InvalidOperation, obstacle, pool)
        self.assertTrue(found > 20)

    def test_renumbering_takes_groups_along(self):
        for pool in pools():
            for numbers in itertools.permutations(range(pool.size)):
                later = pool.renumbered(numbers)
                self.same(closed_groups(later), closed_groups(pool))
                self.same(splitting(later), splitting(pool))
                for group in closed_groups(pool):
                    self.same(common_roots(later, group), tuple(sorted(numbers[root] for root in common_roots(pool, group))))

    def test_reordering_takes_groups_along(self):
        for pool in pools():
            for order in list(itertools.permutations(range(len(pool))))[::5]:
                later = [tuple(sorted(order.index(index) for index in group)) for group in closed_groups(pool)]
                self.same(closed_groups(pool.reordered(order)), tuple(sorted(later)))

    def test_equal_calls_return_equal_results(self):
        for pool in pools():
            self.same(splitting(pool), splitting(Pool(pool.webs)))
            if not can_agree(pool):
                self.same(obstacle(pool), obstacle(Pool(pool.webs)))


if __name__ == "__main__":
    unittest.main()
