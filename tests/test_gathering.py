"""The gathering of stage 13: webs that are put together."""

import random
import unittest

from rootshared.base.pools import Pool, chain_pool, star_pool
from rootshared.base.webs import Web, chain_web, full_web, silent_web, star_web
from rootshared.errors import InvalidNumber, InvalidOperation, InvalidWeb, NothingToUndo, Refused, TooMany
from rootshared.groups.groups import is_obstacle
from rootshared.pools.families import Gathering
from tests.helpers import (BOTH, LEFT, LINE, RIGHT, SIXTY_DIGITS, Checks, odd_values, repr_of, wrong_numbers, wrong_undos,
                           wrong_webs)
from tests.slow import drawn_pools, slow_can_agree, slow_closed_groups

# Eight webs on five houses with which the houses can agree: house 0 is always a root.
EIGHT = tuple(Web(tuple((0,) if house else row for house in range(5)))
              for row in ((), (1,), (2,), (3,), (4,), (1, 2), (1, 3), (1, 4)))


def gathering_of(size, webs):
    made = Gathering(size)
    for web in webs:
        made.put(web)
    return made


class Gatherings(Checks):
    def check_state(self, gathering, size, webs):
        self.same((gathering.size, gathering.webs, len(gathering)), (size, webs, len(webs)))
        groups = slow_closed_groups(tuple(web.heard for web in webs)) if webs else ()
        self.same(gathering.groups, groups)
        self.same(str(gathering), f"gathering of {len(webs)} webs on {size} houses")
        for web in webs:
            self.assertIs(web in gathering, True)

    def test_many_changes_and_some_taken_back(self):
        told = {}
        for seed, pools in ((141, drawn_pools(142, (1, 2), (1,), 3)), (143, drawn_pools(144, (3, 4, 5), (6,), 3))):
            chance = random.Random(seed)
            for pool in pools:
                gathering, trail = Gathering(pool.size), [()]
                self.check_state(gathering, pool.size, ())
                for _ in range(40):
                    kind = self.change(gathering, trail, pool, chance)
                    told[kind] = told.get(kind, 0) + 1
                    self.check_state(gathering, pool.size, trail[-1])
        self.assertEqual(set(told), {"put", "drop", "undo", Refused, InvalidOperation})
        self.assertTrue(min(told.values()) > 20, told)

    def change(self, gathering, trail, pool, chance):
        """What was done, or refused."""
        webs, kind = trail[-1], chance.randrange(6)
        if kind == 0:
            many = chance.randrange(len(trail))
            del trail[len(trail) - many:]
            self.same(gathering.undo(many=many), slow_closed_groups(heard_of(trail[-1])) if trail[-1] else ())
            return "undo"
        if kind == 1 and webs:
            index = chance.randrange(len(webs))
            trail.append(webs[:index] + webs[index + 1:])
            self.same(gathering.drop(index), slow_closed_groups(heard_of(trail[-1])) if trail[-1] else ())
            return "drop"
        return self.put(gathering, trail, chance.choice(pool.webs))

    def put(self, gathering, trail, web):
        webs = trail[-1]
        before = repr_of(gathering)
        if web in webs:
            self.refused(InvalidOperation, gathering.put, web)
        elif not slow_can_agree(heard_of(webs + (web,))):
            paper = self.refused(Refused, gathering.put, web).claim
            self.assertIs(is_obstacle(Pool(webs + (web,)), paper), True)
        else:
            trail.append(webs + (web,))
            self.same(gathering.put(web), slow_closed_groups(heard_of(trail[-1])))
            return "put"
        self.assertEqual(repr_of(gathering), before)
        return InvalidOperation if web in webs else Refused

    def test_by_hand(self):
        gathering = Gathering(2)
        self.same((gathering.webs, gathering.groups, len(gathering), str(gathering)), ((), (), 0, "gathering of 0 webs on 2 houses"))
        self.same((gathering.put(LEFT), gathering.put(RIGHT), gathering.groups), (((0,),), ((0,), (1,)), ((0,), (1,))))
        error = self.refused(Refused, gathering.put, BOTH)
        self.same(error.claim[0], (0, 1, 2))
        self.assertIs(is_obstacle(Pool((LEFT, RIGHT, BOTH)), error.claim), True)
        self.same((gathering.drop(0), gathering.put(BOTH), gathering.webs), (((0,),), ((0,), (1,)), (RIGHT, BOTH)))
        self.same((gathering.undo(), gathering.undo(), gathering.webs), (((0,),), ((0,), (1,)), (LEFT, RIGHT)))
        self.same((gathering.drop(1), gathering.drop(0), gathering.webs, gathering.groups), (((0,),), (), (), ()))
        self.same((gathering.undo(many=4), gathering.webs), ((), ()))

    def test_webs_without_roots(self):
        gathering = Gathering(2)
        error = self.refused(Refused, gathering.put, silent_web(2))
        self.same(error.claim, ((0,), ()))
        one = Gathering(1)
        self.same((one.put(silent_web(1)), one.groups), (((0,),), ((0,),)))

    def test_a_ninth_web(self):
        gathering = gathering_of(5, EIGHT)
        # One that cannot agree with the others, and one that is there, are told in the order of the errors.
        for web in (silent_web(5), star_web(5, 4), full_web(5), Web(((2, 3),) + ((0,),) * 4)):
            self.assertEqual(self.refused(TooMany, gathering.put, web).limit, 8)
        self.refused(InvalidOperation, gathering.put, EIGHT[7])
        self.refused(InvalidWeb, gathering.put, full_web(4))
        gathering.drop(3)
        self.refused(Refused, gathering.put, silent_web(5))
        self.assertEqual(len(gathering), 7)
        gathering.put(Web(((2, 3),) + ((0,),) * 4))
        self.assertEqual(len(gathering), 8)


def heard_of(webs):
    return tuple(web.heard for web in webs)


class Refusals(Checks):
    def test_making(self):
        self.check_refusals(Gathering, (3,), ((InvalidNumber, wrong_numbers(1, 5)),))
        for size in (0, 6, -1, True, 10 ** 60):
            self.refused_number(size, Gathering, size)

    def test_put_and_drop(self):
        for size, webs in ((1, ()), (2, (RIGHT, BOTH)), (3, star_pool(3).webs)):
            gathering = gathering_of(size, webs)
            before = repr_of(gathering)
            for value in wrong_webs(size):
                self.refused(InvalidWeb, gathering.put, value)
            for value in wrong_numbers(0, len(webs) - 1):
                self.refused_number(value, gathering.drop, value)
            self.assertEqual(repr_of(gathering), before)

    def test_undo(self):
        gathering = gathering_of(3, star_pool(3).webs)
        gathering.drop(1)
        for many in (5, 6, SIXTY_DIGITS):
            self.assertEqual(self.refused(NothingToUndo, lambda: gathering.undo(many=many)).many, many)
        for value in wrong_undos():
            self.refused_number(value, lambda many: gathering.undo(many=many), value)
        self.same(gathering.webs, (star_web(3, 0), star_web(3, 2)))
        self.same((gathering.undo(many=0), gathering.undo(many=2)), (((0,), (1,)), ((0,), (1,))))
        self.same(gathering.undo(many=2), ())
        self.assertEqual(self.refused(NothingToUndo, gathering.undo).many, 1)
        with self.assertRaises(TypeError):
            gathering.undo(0)


class GatheringsAsValues(Checks):
    def test_twins_go_on_by_themselves(self):
        gathering = gathering_of(2, (RIGHT,))
        twin = gathering.twin()
        self.assertIs(gathering == twin, True)
        self.same((twin.webs, twin.groups, twin.size), ((RIGHT,), ((0,),), 2))
        twin.put(LEFT)
        self.same((gathering.webs, twin.webs), ((RIGHT,), (RIGHT, LEFT)))
        self.assertIs(gathering != twin, True)
        gathering.put(BOTH)
        self.same((twin.undo(many=2), gathering.groups, gathering.webs), ((), ((0,), (1,)), (RIGHT, BOTH)))
        self.refused(NothingToUndo, twin.undo)

    def test_equal_by_sizes_and_webs_in_order(self):
        one = gathering_of(2, (RIGHT, LEFT))
        other = gathering_of(2, (LEFT, BOTH))
        self.assertIs(one == other, False)
        other.drop(1)
        other.drop(0)
        other.put(RIGHT)
        other.put(LEFT)
        self.assertIs(one == other, True)
        self.assertIs(one != other, False)
        self.assertIs(one == gathering_of(2, (LEFT, RIGHT)), False)
        self.assertIs(Gathering(2) == Gathering(3), False)
        self.assertIs(Gathering(2) == Gathering(2), True)

    def test_equal_and_in_accept_every_value(self):
        gathering = gathering_of(2, (RIGHT, LEFT))
        for value in odd_values() + [Pool((RIGHT, LEFT)), (RIGHT, LEFT), 2, str(gathering), LINE, BOTH, silent_web(1)]:
            self.assertIs(gathering == value, False)
            self.assertIs(value == gathering, False)
            self.assertIs(gathering != value, True)
            self.assertIs(value in gathering, isinstance(value, Web) and value.heard in (RIGHT.heard, LEFT.heard))
        self.assertIs(Web(((), (0,))) in gathering, True)

    def test_no_iteration(self):
        for call in (iter, list, tuple, sorted):
            with self.assertRaises(TypeError):
                call(gathering_of(2, (RIGHT,)))

    def test_webs_of_a_pool_with_which_the_houses_cannot_agree(self):
        for pool in (LINE, chain_pool(3), chain_pool(4), Pool((chain_web(2, 0), chain_web(2, 1), full_web(2)))):
            gathering = Gathering(pool.size)
            with self.assertRaises(Refused) as caught:
                for web in pool.webs:
                    gathering.put(web)
            self.assertIs(is_obstacle(pool.part(tuple(range(len(gathering) + 1))), caught.exception.claim), True)


if __name__ == "__main__":
    unittest.main()
