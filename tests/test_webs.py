"""Webs [0.1] to [0.7], [1.1]."""

import unittest
from itertools import permutations

from rootshared.base.webs import Web, chain_web, full_web, silent_web, star_web
from rootshared.errors import InvalidOperation, InvalidWeb
from tests.helpers import (BOTH, HUNDRED_DIGITS, LEFT, LINE, RIGHT, SIXTY_DIGITS, Checks, all_heard, odd_values,
                           repr_of, slow_known, slow_parts, slow_roots, slow_ways, some_heard, without_selves,
                           wrong_numbers, wrong_orders, wrong_webs)

RING = Web(((2,), (0,), (1,)))
# House 0 hears 1 and 2, 1 hears 0, and nobody hears 3, which hears 0.
MIXED = Web(((1, 2), (0,), (), (0,)))


class MakingWebs(Checks):
    def test_webs_of_one_to_five_houses(self):
        for heard in some_heard():
            web = Web(heard)
            self.same(web.heard, heard)
            self.same(web.size, len(heard))

    def test_number_of_houses(self):
        self.refused(InvalidWeb, Web, ())
        for size in (1, 2, 3, 4, 5):
            self.same(Web(((),) * size).size, size)
        for size in (6, 7, 20):
            self.refused(InvalidWeb, Web, ((),) * size)
            self.refused(InvalidWeb, Web, ((),) * (size - 1) + ((0,),))

    def test_rows_that_are_not_ascending_or_doubled(self):
        for row in ((2, 1), (1, 1), (2, 2), (1, 2, 1), (2, 1, 2)):
            self.refused(InvalidWeb, Web, (row, (), ()))
            self.refused(InvalidWeb, Web, ((), tuple({1: 0, 2: 2}[house] for house in row), ()))

    def test_rows_with_the_house_itself(self):
        for size in (1, 2, 3, 4, 5):
            for house in range(size):
                rows = [()] * size
                rows[house] = (house,)
                self.refused(InvalidWeb, Web, tuple(rows))
        self.refused(InvalidWeb, Web, ((0, 1), (0,)))

    def test_rows_with_a_house_that_is_none(self):
        for house in (-1, 2, 5, SIXTY_DIGITS, HUNDRED_DIGITS, -HUNDRED_DIGITS, None, "1", "", (), (1,), [1], {}, RIGHT):
            self.refused(InvalidWeb, Web, ((house,), ()))
            self.refused(InvalidWeb, Web, ((), (house,)))
        self.refused(InvalidWeb, Web, ((1, 2), ()))
        self.refused(InvalidWeb, Web, ((), (-1, 0)))

    def test_true_and_false_are_no_houses(self):
        self.refused(InvalidWeb, Web, ((True,), ()))
        self.refused(InvalidWeb, Web, ((), (False,)))
        self.refused(InvalidWeb, Web, ((True, 2), (), ()))

    def test_lists_in_the_place_of_tuples(self):
        self.refused(InvalidWeb, Web, [(1,), (0,)])
        self.refused(InvalidWeb, Web, ([1], (0,)))
        self.refused(InvalidWeb, Web, ((1,), [0]))
        self.refused(InvalidWeb, Web, ((1,), []))
        self.refused(InvalidWeb, Web, {0: (1,), 1: (0,)})
        self.refused(InvalidWeb, Web, ({1: 1}, (0,)))

    def test_odd_values(self):
        right = [repr(heard) for size in (1, 2, 3) for heard in all_heard(size)]
        for value in odd_values():
            if repr(value) not in right:
                self.refused(InvalidWeb, Web, value)
            if repr((value, (), ())) not in right:
                self.refused(InvalidWeb, Web, (value, (), ()))
        self.refused(InvalidWeb, Web, RIGHT)


class WhatWebsTell(Checks):
    def test_roots_and_parts_and_whom_each_reaches(self):
        for heard in some_heard():
            web = Web(heard)
            self.same(web.roots, slow_roots(heard))
            self.same(web.parts, slow_parts(heard))
            ways = slow_ways(heard)
            for house in range(len(heard)):
                wanted = tuple(other for other in range(len(heard)) if (house, other) in ways)
                self.same(web.reached(house), wanted)
                self.same(web.hears(house), tuple(sorted((house,) + heard[house])))

    def test_some_by_hand(self):
        self.same((MIXED.roots, MIXED.parts), ((2,), ((0, 1), (2,), (3,))))
        self.same((MIXED.reached(0), MIXED.reached(2), MIXED.reached(3)), ((0, 1, 3), (0, 1, 2, 3), (3,)))
        self.same((MIXED.hears(0), MIXED.hears(2), MIXED.hears(3)), ((0, 1, 2), (2,), (0, 3)))
        self.same((RING.roots, RING.parts), ((0, 1, 2), ((0, 1, 2),)))
        self.same((Web(((),)).roots, Web(((),)).parts, Web(((),)).reached(0)), ((0,), ((0,),), (0,)))

    def test_webs_without_a_root(self):
        web = Web(((1,), (0,), (3,), (2,), ()))
        self.same((web.roots, web.parts), ((), ((0, 1), (2, 3), (4,))))
        self.same((web.reached(3), web.reached(4)), ((2, 3), (4,)))

    def test_no_house(self):
        for size in (1, 2, 5):
            web = full_web(size)
            for value in wrong_numbers(0, size - 1):
                self.refused_number(value, web.hears, value)
                self.refused_number(value, web.reached, value)

    def test_roots_are_a_part_or_there_are_none(self):
        for heard in some_heard():
            web = Web(heard)
            self.assertTrue(web.roots == () or web.roots in web.parts)
            for root in web.roots:
                self.assertTrue(set(web.hears(root)) <= set(web.roots))


class ChangedWebs(Checks):
    def test_one_hears_more_or_less(self):
        for heard in some_heard():
            web = Web(heard)
            for house in range(web.size):
                for other in range(web.size):
                    self.check_pair(web, house, other)
            self.same(web.heard, heard)

    def check_pair(self, web, house, other):
        rows = list(web.heard)
        if house == other:
            self.refused(InvalidOperation, web.with_hearing, house, other)
            self.refused(InvalidOperation, web.without_hearing, house, other)
        elif other in rows[house]:
            self.refused(InvalidOperation, web.with_hearing, house, other)
            rows[house] = tuple(sorted(set(rows[house]) - {other}))
            self.same(web.without_hearing(house, other).heard, tuple(rows))
        else:
            self.refused(InvalidOperation, web.without_hearing, house, other)
            rows[house] = tuple(sorted(set(rows[house]) | {other}))
            self.same(web.with_hearing(house, other).heard, tuple(rows))

    def test_the_first_house_that_is_none_is_refused(self):
        for call in (MIXED.with_hearing, MIXED.without_hearing):
            for value in wrong_numbers(0, 3):
                self.refused_number(value, call, value, 0)
                self.refused_number(value, call, 0, value)
                self.refused_number(value, call, value, value)
                self.refused_number(value, call, value, "other")
                self.refused_number("house", call, "house", value)

    def test_renumbered(self):
        for heard in some_heard():
            web = Web(heard)
            for numbers in list(permutations(range(len(heard))))[:30]:
                later = web.renumbered(numbers)
                for house in range(len(heard)):
                    wanted = tuple(sorted(numbers[other] for other in heard[house]))
                    self.same(later.heard[numbers[house]], wanted)
                self.same(later.roots, tuple(sorted(numbers[root] for root in web.roots)))

    def test_renumbered_is_no_exchange_of_old_and_new(self):
        self.same(chain_web(3, 0).renumbered((1, 2, 0)).heard, ((2,), (), (1,)))
        self.same(Web(((1,), (), ())).renumbered((1, 2, 0)).heard, ((), (2,), ()))

    def test_no_new_numbers(self):
        for size in (1, 2, 3, 5):
            for value in wrong_orders(size):
                self.refused(InvalidOperation, full_web(size).renumbered, value)


class TwoWebs(Checks):
    def pairs(self):
        for size in (1, 2):
            for one in all_heard(size):
                for other in all_heard(size):
                    yield one, other
        for size, step, leap in ((3, 1, 5), (4, 113, 127), (5, 30011, 65521)):
            for one in all_heard(size, step):
                for other in all_heard(size, leap):
                    yield one, other

    def test_joined_and_shared_and_within(self):
        for one, other in self.pairs():
            web, more = Web(one), Web(other)
            rows = [(set(mine), set(theirs)) for mine, theirs in zip(one, other)]
            self.same(web.joined(more).heard, tuple(tuple(sorted(mine | theirs)) for mine, theirs in rows))
            self.same(web.shared(more).heard, tuple(tuple(sorted(mine & theirs)) for mine, theirs in rows))
            self.assertIs(web.is_within(more), all(mine <= theirs for mine, theirs in rows))
            self.assertIs(web.is_within(web.joined(more)), True)
            self.assertIs(web.shared(more).is_within(more), True)
            self.same((web.heard, more.heard), (one, other))

    def test_then(self):
        for one, other in self.pairs():
            self.same(Web(one).then(Web(other)).heard, without_selves(slow_known([one, other])))

    def test_then_has_the_first_round_first(self):
        first, second = Web(((), (0,), ())), Web(((), (), (1,)))
        self.same(first.then(second).heard, ((), (0,), (0, 1)))
        self.same(second.then(first).heard, ((), (0,), (1,)))

    def test_no_web_of_the_same_size(self):
        for size in (1, 2, 3, 5):
            web = full_web(size)
            for value in wrong_webs(size):
                for call in (web.joined, web.shared, web.then, web.is_within):
                    self.refused(InvalidWeb, call, value)

    def test_is_within_tells_true_or_false(self):
        self.assertIs(RIGHT.is_within(BOTH), True)
        self.assertIs(BOTH.is_within(RIGHT), False)
        self.assertIs(RIGHT.is_within(LEFT), False)
        self.assertIs(silent_web(5).is_within(silent_web(5)), True)


class Ways(Checks):
    def test_all_ways_of_two_rounds_are_ways(self):
        for heard in some_heard():
            web = Web(heard)
            for house in range(web.size):
                self.assertTrue(set(web.then(web).reached(house)) <= set(web.reached(house)))

    def heard_by_all(self, rounds):
        behind = rounds[0]
        for web in rounds[1:]:
            behind = behind.then(web)
        return [house for house in range(behind.size) if all(house in behind.hears(one) for one in range(behind.size))]

    def test_roots_are_heard_by_all_whatever_stands_between(self):
        between = [list(map(Web, all_heard(3))), list(map(Web, all_heard(4, 509))), list(map(Web, all_heard(5, 200003)))]
        webs = [Web(heard) for heard in some_heard() if len(heard) > 2]
        for at, web in enumerate(webs):
            others = between[web.size - 3]
            for other in (web, others[at % len(others)], others[at * 7 % len(others)], silent_web(web.size)):
                rounds = [other, web] * (web.size - 1) + [other]
                self.assertTrue(set(web.roots) <= set(self.heard_by_all(rounds)))

    def test_chains_need_all_rounds(self):
        for size in (2, 3, 4, 5):
            chain = chain_web(size, 0)
            self.same(self.heard_by_all([chain] * (size - 1)), [0])
            self.same(self.heard_by_all([silent_web(size)] + [chain] * (size - 2)), [])


class WebsAsValues(Checks):
    def test_pairs_in_a_web(self):
        for heard in some_heard():
            web = Web(heard)
            pairs = [(house, other) for house in range(-1, 6) for other in range(-1, 6)]
            found = [pair for pair in pairs if pair in web]
            self.same(found, [(house, other) for house, row in enumerate(heard) for other in row])
            self.same(len(web), len(found))

    def test_in_accepts_every_value(self):
        for web in (RIGHT, LEFT, BOTH, full_web(5), silent_web(1)):
            right = [repr((house, other)) for house, row in enumerate(web.heard) for other in row]
            for value in odd_values() + [(0, 1, 1), ((0, 1),), (0, "1"), ([], {}), (SIXTY_DIGITS, 0), (0, HUNDRED_DIGITS)]:
                self.assertIs(value in web, repr(value) in right)

    def test_true_is_no_house_in_a_pair(self):
        self.assertIs((1, 0) in BOTH, True)
        for value in ((True, 0), (1, False), (True, False), (False, True), (0, True), [1, 0], {1: 0}):
            self.assertIs(value in BOTH, False)

    def test_equal(self):
        webs = [Web(heard) for size in (1, 2, 3) for heard in all_heard(size)]
        for web in webs:
            for other in webs[::3] + [Web(web.heard)]:
                self.assertIs(web == other, web.heard == other.heard)
                self.assertIs(web != other, web.heard != other.heard)

    def test_equal_accepts_every_value(self):
        for value in odd_values() + [LINE, RIGHT.heard, str(RIGHT)]:
            wanted = isinstance(value, Web) and value.heard == ((), (0,))
            self.assertIs(RIGHT == value, wanted)
            self.assertIs(value == RIGHT, wanted)
            self.assertIs(RIGHT != value, not wanted)
            self.assertIs(value != RIGHT, not wanted)

    def test_text(self):
        self.same(str(Web(((2,), (0,), ()))), "web of 3 houses: 0 hears 2, 1 hears 0")
        self.same(str(silent_web(2)), "web of 2 houses: nobody hears")
        self.same(str(silent_web(1)), "web of 1 houses: nobody hears")
        self.same(str(MIXED), "web of 4 houses: 0 hears 1, 0 hears 2, 1 hears 0, 3 hears 0")

    def test_no_iteration(self):
        for web in (BOTH, silent_web(1), full_web(5)):
            for call in (iter, list, tuple, sorted, enumerate):
                with self.assertRaises(TypeError):
                    call(web)

    def test_equal_calls_return_equal_results_and_change_nothing(self):
        for heard in all_heard(3, 3):
            web, more = Web(heard), chain_web(3, 1)
            first = [web.then(more), web.joined(more), web.shared(more), web.hears(1), web.renumbered((2, 0, 1)), str(web)]
            again = [web.then(more), web.joined(more), web.shared(more), web.hears(1), web.renumbered((2, 0, 1)), str(web)]
            self.same(first, again)
            self.same([web.heard, more.heard, web.parts], [heard, ((2,), (), (1,)), slow_parts(heard)])


class MadeWebs(Checks):
    def test_silent_and_full(self):
        for size in (1, 2, 3, 4, 5):
            houses = range(size)
            self.same(silent_web(size).heard, ((),) * size)
            self.same(full_web(size).heard, tuple(tuple(other for other in houses if other != house) for house in houses))

    def test_star(self):
        self.same([star_web(1, 0).heard, star_web(2, 1).heard], [((),), ((1,), ())])
        self.same([star_web(3, 0).heard, star_web(4, 2).heard], [((), (0,), (0,)), ((2,), (2,), (), (2,))])
        for size in (1, 2, 3, 4, 5):
            for center in range(size):
                wanted = tuple(() if house == center else (center,) for house in range(size))
                self.same(star_web(size, center).heard, wanted)

    def test_chain(self):
        self.same([chain_web(1, 0).heard, chain_web(2, 0).heard, chain_web(2, 1).heard], [((),), ((), (0,)), ((1,), ())])
        self.same([chain_web(4, 0).heard, chain_web(4, 2).heard], [((), (0,), (1,), (2,)), ((3,), (0,), (), (2,))])
        self.same(chain_web(5, 4).heard, ((4,), (0,), (1,), (2,), ()))

    def test_wrong_sizes(self):
        for value in wrong_numbers(1, 5):
            self.refused_number(value, silent_web, value)
            self.refused_number(value, full_web, value)
            for call in (star_web, chain_web):
                self.refused_number(value, call, value, 0)
                self.refused_number(value, call, value, "house")
                self.refused_number(value, call, value, -1)

    def test_wrong_houses(self):
        for call in (star_web, chain_web):
            for size in (1, 2, 3, 4, 5):
                for value in wrong_numbers(0, size - 1):
                    self.refused_number(value, call, size, value)


class SameTells(Checks):
    def test_true_is_told_from_one(self):
        # The tests themselves rest on this.
        self.assertNotEqual(repr_of((True,)), repr_of((1,)))
        with self.assertRaises(AssertionError):
            self.same((True,), (1,))


if __name__ == "__main__":
    unittest.main()
