"""Links and ways [0.9], [3.1]."""

import itertools
import unittest

from rootshared.base.pools import Pool, chain_pool, star_pool
from rootshared.base.webs import Web, full_web, silent_web
from rootshared.errors import InvalidGroup, InvalidNumber, InvalidOperation, InvalidPool, InvalidWeb
from rootshared.groups.links import alike, is_link, is_linked_way, linked_way, links_in, parts_of
from tests.helpers import (BOTH, LEFT, LINE, RIGHT, Checks, all_heard, odd_values, wrong_groups, wrong_numbers,
                           wrong_pools, wrong_webs)
from tests.slow import (ASIDE, NO_ROOTS, drawn_pools, groups_of, is_pure, known_pools, near, rows_of, slow_alike,
                        slow_links, slow_parts_of, small_pools)


def pools():
    yield from small_pools()
    yield from known_pools()
    yield from drawn_pools(31, (2, 3, 4), (1, 2, 3, 4), 4)
    yield from drawn_pools(32, (3, 4), (5, 6), 5)


def slow_is_way(pool, group, value):
    """Whether the value is a way within the group, by the words of the document."""
    if not isinstance(value, tuple) or not is_pure(value) or len(value) % 2 == 0:
        return False
    if not all(any(index == member for member in group) for index in value):
        return False
    rows = rows_of(pool)
    return all(slow_alike(rows[value[at]], rows[value[at + 2]], rows[value[at + 1]]) for at in range(0, len(value) - 2, 2))


def no_members(group):
    """Values that are no integers of the group."""
    most = max(group)
    return wrong_numbers(0, most) + [index for index in range(most) if index not in group]


class Alike(Checks):
    def test_webs_of_two_houses_and_some_of_more(self):
        for size, step, leap in ((1, 1, 1), (2, 1, 1), (3, 5, 7), (4, 499, 701), (5, 150001, 130003)):
            webs = [Web(heard) for heard in all_heard(size, step)]
            others = [Web(heard) for heard in all_heard(size, leap)]
            for one, other, third in itertools.product(webs, others, others):
                self.assertIs(alike(one, other, third), slow_alike(one.heard, other.heard, third.heard))

    def test_webs_that_are_alike_though_others_differ(self):
        # Houses 0 and 1 are the roots of the third one, and house 2 hears other houses.
        third = Web(((1,), (0,), (0,)))
        one, other = Web(((2,), (), ())), Web(((2,), (), (0, 1)))
        self.assertIs(alike(one, other, third), True)
        self.assertIs(alike(one, other.with_hearing(1, 2), third), False)

    def test_never_for_a_web_without_a_root(self):
        for web in (silent_web(2), RIGHT, BOTH):
            self.assertIs(alike(web, web, silent_web(2)), False)
            self.assertIs(alike(web, web, LEFT), True)
        self.assertIs(alike(silent_web(1), silent_web(1), silent_web(1)), True)

    def test_either_order_of_the_first_two(self):
        for one, other, third in itertools.product([Web(heard) for heard in all_heard(3, 5)], repeat=3):
            self.assertIs(alike(one, other, third), alike(other, one, third))

    def test_refusals(self):
        for web in (RIGHT, full_web(3), silent_web(5)):
            webs = (InvalidWeb, wrong_webs(web.size))
            no_webs = (InvalidWeb, [value for value in odd_values() if not isinstance(value, Web)])
            self.check_refusals(alike, (web, web, web), (no_webs, webs, webs))
        self.refused(InvalidWeb, alike, RIGHT, LEFT, full_web(3))
        self.refused(InvalidWeb, alike, RIGHT, full_web(3), full_web(3))
        self.refused(InvalidWeb, alike, full_web(3), RIGHT, RIGHT)


class Links(Checks):
    def test_links_within_all_groups(self):
        for pool in pools():
            for group in groups_of(len(pool)):
                self.same(links_in(pool, group), slow_links(rows_of(pool), group))

    def test_is_link_of_all_triples(self):
        for pool in pools():
            right = slow_links(rows_of(pool), tuple(range(len(pool))))
            for value in itertools.product(range(-1, len(pool) + 1), repeat=3):
                self.assertIs(is_link(pool, value), value in right)

    def test_is_link_of_values_near_a_link(self):
        for pool in (LINE, ASIDE, chain_pool(3), chain_pool(4)):
            right = {repr(link) for link in slow_links(rows_of(pool), tuple(range(len(pool))))}
            for link in slow_links(rows_of(pool), tuple(range(len(pool)))):
                self.assertIs(is_link(pool, link), True)
                for value in near(link):
                    self.assertIs(is_link(pool, value), repr(value) in right, value)
        for value in odd_values():
            self.assertIs(is_link(LINE, value), False)
        self.assertIs(is_link(LINE, (0, 2, True)), False)
        self.assertIs(is_link(LINE, (False, 2, 1)), False)

    def test_one_web_twice_is_no_link(self):
        for pool in (LINE, star_pool(3)):
            for index, third in itertools.product(range(3), repeat=2):
                self.assertIs(is_link(pool, (index, index, third)), False)

    def test_no_links_for_webs_without_a_root(self):
        self.same(links_in(NO_ROOTS, (0, 1, 2)), ())
        self.same(links_in(Pool((silent_web(2), BOTH)), (0, 1)), ())

    def test_refusals(self):
        for pool, group in ((LINE, (0, 2)), (ASIDE, (0, 1, 2)), (Pool((silent_web(1),)), (0,))):
            kinds = ((InvalidPool, wrong_pools()), (InvalidGroup, wrong_groups(pool)))
            self.check_refusals(links_in, (pool, group), kinds)
            self.check_refusals(parts_of, (pool, group), kinds)
            self.check_refusals(is_link, (pool, (0, 2, 1)), (kinds[0], None))
            self.check_refusals(is_link, (pool, None), (kinds[0], None))


class Parts(Checks):
    def test_parts_of_all_groups(self):
        for pool in pools():
            for group in groups_of(len(pool)):
                self.same(parts_of(pool, group), slow_parts_of(rows_of(pool), group))

    def test_the_third_web_in_another_part(self):
        self.same(links_in(ASIDE, (0, 1, 2)), ((0, 1, 2),))
        self.same(parts_of(ASIDE, (0, 1, 2)), ((0, 1), (2,)))
        self.same(parts_of(ASIDE, (0, 1)), ((0,), (1,)))

    def test_groups_of_one_web(self):
        for pool in pools():
            for index in range(len(pool)):
                self.same(parts_of(pool, (index,)), ((index,),))
                self.same(links_in(pool, (index,)), ())


class Ways(Checks):
    def check_ways(self, pool, group):
        parts = slow_parts_of(rows_of(pool), group)
        for one, other in itertools.product(group, repeat=2):
            if any(one in part and other in part for part in parts):
                way = linked_way(pool, group, one, other)
                self.assertTrue(slow_is_way(pool, group, way), way)
                self.assertIs(is_linked_way(pool, group, way), True)
                self.assertEqual((way[0], way[-1]), (one, other))
                self.assertLessEqual(len(way), 99)
            else:
                self.refused(InvalidOperation, linked_way, pool, group, one, other)

    def test_ways_within_all_groups(self):
        for pool in pools():
            for group in groups_of(len(pool)):
                self.check_ways(pool, group)

    def test_ways_of_several_steps(self):
        pool = [pool for pool in drawn_pools(33, (4,), (8,), 60) if len(slow_parts_of(rows_of(pool), tuple(range(8)))) == 1][0]
        self.check_ways(pool, tuple(range(8)))
        lengths = {len(linked_way(pool, tuple(range(8)), one, other)) for one in range(8) for other in range(8)}
        self.assertTrue(max(lengths) >= 5)

    def test_all_short_rows(self):
        chosen = list(small_pools()) + [ASIDE, star_pool(3), chain_pool(3), NO_ROOTS]
        for pool in chosen:
            for group in groups_of(len(pool))[-4:]:
                for length in (0, 1, 2, 3, 4, 5):
                    if length < 5 or len(pool) < 4:
                        for value in itertools.product(range(len(pool)), repeat=length):
                            self.assertIs(is_linked_way(pool, group, value), slow_is_way(pool, group, value), value)

    def test_values_near_ways(self):
        for pool, group, way in ((LINE, (0, 1, 2), (0, 1, 2, 0, 1)), (ASIDE, (0, 1, 2), (1, 2, 0)), (LINE, (0, 2), (2,)),
                                 (chain_pool(3), (0, 1, 2), (0, 2, 1, 0, 2))):
            self.assertIs(is_linked_way(pool, group, way), True)
            for value in near(way):
                self.assertIs(is_linked_way(pool, group, value), slow_is_way(pool, group, value), value)
        for value in odd_values():
            self.assertIs(is_linked_way(LINE, (0, 1, 2), value), slow_is_way(LINE, (0, 1, 2), value), value)

    def test_longer_ways_than_needed(self):
        self.assertIs(is_linked_way(LINE, (0, 1, 2), (0, 1, 2, 1) * 30 + (0,)), True)
        self.assertIs(is_linked_way(LINE, (0, 1, 2), (0, 1, 2, 1) * 500 + (0, 0, 0)), True)
        self.assertIs(is_linked_way(LINE, (0, 1, 2), (0, 1, 2, 1) * 500 + (0, 0, 1)), False)

    def test_ways_leave_the_group_nowhere(self):
        self.assertIs(is_linked_way(LINE, (0, 2), (0, 1, 2)), False)
        self.assertIs(is_linked_way(LINE, (0, 2), (1,)), False)
        self.assertIs(is_linked_way(LINE, (0, 2), (0, 0, 0)), True)
        self.refused(InvalidOperation, linked_way, LINE, (0, 2), 0, 2)

    def test_ways_from_a_web_to_itself(self):
        pool = Pool((silent_web(2), RIGHT))
        for group in ((0,), (1,), (0, 1)):
            for index in group:
                self.assertIs(is_linked_way(pool, group, (index,)), True)
                self.assertIs(is_linked_way(pool, group, linked_way(pool, group, index, index)), True)
                # The web between must have a root, wherever the way begins.
                for third in group:
                    self.assertIs(is_linked_way(pool, group, (index, third, index)), third == 1)

    def test_refusals(self):
        for pool, group in ((LINE, (0, 2)), (LINE, (0, 1, 2)), (ASIDE, (1, 2)), (Pool((silent_web(1),)), (0,))):
            pools_kind, groups_kind = (InvalidPool, wrong_pools()), (InvalidGroup, wrong_groups(pool))
            members = (InvalidNumber, no_members(group))
            good = (pool, group, group[0], group[-1])
            self.check_refusals(linked_way, good, (pools_kind, groups_kind, members, members))
            self.check_refusals(is_linked_way, (pool, group, (0,)), (pools_kind, groups_kind, None))
            self.check_refusals(is_linked_way, (pool, group, [[]]), (pools_kind, groups_kind, None))


class Promises(Checks):
    def test_a_link_stays_one_with_other_webs_in_the_pool(self):
        for pool in drawn_pools(34, (3, 4), (3, 4), 6):
            links = links_in(pool, tuple(range(len(pool))))
            more = pool
            for web in [web for web in chain_pool(pool.size) if web not in pool]:
                more = more.with_web(web)
            self.assertTrue(all(is_link(more, link) for link in links))
            self.same(links_in(more, tuple(range(len(pool)))), links)

    def test_fewer_webs_have_no_more_links(self):
        for pool in pools():
            for group in groups_of(len(pool)):
                links = links_in(pool, group)
                for less in [group[:at] + group[at + 1:] for at in range(len(group)) if len(group) > 1]:
                    self.same(links_in(pool, less), tuple(link for link in links if set(link) <= set(less)))

    def test_renumbering_takes_links_along(self):
        for pool in pools():
            group = tuple(range(len(pool)))
            for numbers in itertools.permutations(range(pool.size)):
                self.same(links_in(pool.renumbered(numbers), group), links_in(pool, group))

    def test_equal_calls_return_equal_results(self):
        for pool in (LINE, ASIDE, chain_pool(3)):
            group = (0, 1, 2)
            for call in (lambda: links_in(pool, group), lambda: parts_of(pool, group), lambda: linked_way(pool, group, 0, 1)):
                self.same(call(), call())


if __name__ == "__main__":
    unittest.main()
