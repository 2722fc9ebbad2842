"""The sieve of stage 4: webs that are barred and let again."""

import random
import unittest

from rootshared.base.pools import Pool, chain_pool, muted_pool, star_pool
from rootshared.base.webs import silent_web
from rootshared.errors import InvalidOperation, InvalidPool, NothingToUndo
from rootshared.groups.groups import Sieve
from tests.helpers import (HUNDRED_DIGITS, LINE, SIXTY_DIGITS, Checks, odd_values, repr_of, wrong_numbers, wrong_pools,
                           wrong_undos)
from tests.slow import NO_ROOTS, drawn_pools, rows_of, slow_can_agree


def verdict_of(pool, left):
    rows = rows_of(pool)
    return slow_can_agree(tuple(rows[index] for index in left))


class Sieving(Checks):
    def check_state(self, sieve, pool, left):
        self.same(sieve.left, left)
        self.assertIs(sieve.verdict, verdict_of(pool, left))
        self.assertIs(bool(sieve), verdict_of(pool, left))
        self.same((len(sieve), sieve.pool), (len(left), pool))
        self.same(str(sieve), f"sieve: {' '.join(str(index) for index in left)} of {len(pool)} webs")

    def test_all_are_let_at_first(self):
        for pool in (LINE, star_pool(3), chain_pool(3), NO_ROOTS, Pool((silent_web(1),)), Pool((silent_web(2),))):
            self.check_state(Sieve(pool), pool, tuple(range(len(pool))))

    def test_changes_by_hand(self):
        sieve = Sieve(LINE)
        self.assertIs(sieve.verdict, False)
        self.assertIs(sieve.ban(1), True)
        self.same((str(sieve), sieve.left, len(sieve)), ("sieve: 0 2 of 3 webs", (0, 2), 2))
        self.assertIs(sieve.ban(0), True)
        self.same(sieve.left, (2,))
        self.assertIs(sieve.let(1), True)
        self.assertIs(sieve.let(0), False)
        self.assertIs(sieve.undo(), True)
        self.same(sieve.left, (1, 2))
        self.assertIs(sieve.undo(many=3), False)
        self.same(sieve.left, (0, 1, 2))

    def test_many_changes_and_some_taken_back(self):
        chance = random.Random(46)
        for pool in list(drawn_pools(47, (2, 3), (2, 4), 3)) + [LINE, muted_pool(3), chain_pool(4)]:
            sieve = Sieve(pool)
            trail = [tuple(range(len(pool)))]
            for _ in range(60):
                self.change(sieve, trail, pool, chance)
                self.check_state(sieve, pool, trail[-1])

    def change(self, sieve, trail, pool, chance):
        index = chance.randrange(len(pool))
        left = trail[-1]
        if chance.randrange(4) == 0:
            many = chance.randrange(len(trail))
            del trail[len(trail) - many:]
            self.assertIs(sieve.undo(many=many), verdict_of(pool, trail[-1]))
        elif index not in left:
            self.refused(InvalidOperation, sieve.ban, index)
            trail.append(tuple(sorted(left + (index,))))
            self.assertIs(sieve.let(index), verdict_of(pool, trail[-1]))
        else:
            self.refused(InvalidOperation, sieve.let, index)
            if len(left) > 1:
                trail.append(tuple(kept for kept in left if kept != index))
                self.assertIs(sieve.ban(index), verdict_of(pool, trail[-1]))
            else:
                self.refused(InvalidOperation, sieve.ban, index)

    def test_the_last_one_stays(self):
        sieve = Sieve(Pool((silent_web(2),)))
        self.refused(InvalidOperation, sieve.ban, 0)
        self.refused(InvalidOperation, sieve.let, 0)
        self.check_state(sieve, sieve.pool, (0,))


class Undoing(Checks):
    def test_more_than_there_are(self):
        sieve = Sieve(LINE)
        sieve.ban(0)
        sieve.ban(2)
        for many in (3, 4, 100, SIXTY_DIGITS):
            self.assertEqual(self.refused(NothingToUndo, lambda: sieve.undo(many=many)).many, many)
            self.same(sieve.left, (1,))
        sieve.undo(many=2)
        self.assertEqual(self.refused(NothingToUndo, sieve.undo).many, 1)
        self.assertIs(sieve.undo(many=0), False)
        self.same(sieve.left, (0, 1, 2))

    def test_what_is_undone_is_gone(self):
        sieve = Sieve(LINE)
        sieve.ban(0)
        sieve.undo()
        self.refused(NothingToUndo, sieve.undo)
        sieve.ban(1)
        sieve.undo()
        self.same(sieve.left, (0, 1, 2))

    def test_many_is_an_integer_of_at_least_0(self):
        sieve = Sieve(LINE)
        sieve.ban(0)
        for value in wrong_undos():
            self.refused_number(value, lambda many: sieve.undo(many=many), value)
        for value in (10 ** 60, HUNDRED_DIGITS, -1, True, None):
            self.refused_number(value, lambda many: sieve.undo(many=many), value)
        self.same(sieve.left, (1, 2))

    def test_many_is_a_keyword(self):
        sieve = Sieve(LINE)
        sieve.ban(0)
        with self.assertRaises(TypeError):
            sieve.undo(1)

    def test_refused_changes_are_none(self):
        sieve = Sieve(LINE)
        sieve.ban(0)
        sieve.ban(1)
        before = repr_of(sieve)
        for call, index in ((sieve.ban, 0), (sieve.ban, 2), (sieve.let, 2), (sieve.ban, 3), (sieve.let, -1)):
            with self.assertRaises((InvalidOperation, IndexError)):
                call(index)
            self.assertEqual(repr_of(sieve), before)
        self.assertIs(sieve.undo(many=2), False)


class Twins(Checks):
    def test_twins_go_on_by_themselves(self):
        sieve = Sieve(LINE)
        sieve.ban(0)
        twin = sieve.twin()
        self.assertIs(sieve == twin, True)
        self.same((twin.left, twin.verdict, twin.pool), ((1, 2), True, LINE))
        twin.ban(1)
        self.same((sieve.left, twin.left), ((1, 2), (2,)))
        self.assertIs(sieve != twin, True)
        sieve.let(0)
        self.same((sieve.left, twin.left), ((0, 1, 2), (2,)))
        self.assertIs(twin.undo(many=2), False)
        self.same((sieve.left, twin.left), ((0, 1, 2), (0, 1, 2)))
        self.refused(NothingToUndo, twin.undo)
        self.assertIs(sieve.undo(many=1), True)
        self.same(sieve.left, (1, 2))

    def test_twins_of_twins(self):
        sieve = Sieve(star_pool(3))
        sieve.ban(2)
        again = sieve.twin().twin()
        sieve.undo()
        again.ban(0)
        self.same((sieve.left, again.left), ((0, 1, 2), (1,)))


class SievesAsValues(Checks):
    def test_equal_by_pools_and_webs_that_are_let(self):
        one, other = Sieve(LINE), Sieve(Pool(LINE.webs))
        self.assertIs(one == other, True)
        one.ban(0)
        self.assertIs(one == other, False)
        self.assertIs(one != other, True)
        other.ban(1)
        other.ban(0)
        other.let(1)
        self.assertIs(one == other, True)
        self.assertIs(one != other, False)
        self.assertIs(one == Sieve(LINE.part((1, 2))), False)
        self.assertIs(Sieve(LINE) == Sieve(LINE.reordered((1, 0, 2))), False)

    def test_equal_accepts_every_value(self):
        sieve = Sieve(star_pool(3))
        for value in odd_values() + [LINE, (0, 1, 2), 3, "sieve: 0 1 2 of 3 webs", False]:
            self.assertIs(sieve == value, False)
            self.assertIs(value == sieve, False)
            self.assertIs(sieve != value, True)
            self.assertIs(value != sieve, True)

    def test_no_iteration(self):
        for call in (iter, list, tuple, sorted):
            with self.assertRaises(TypeError):
                call(Sieve(LINE))

    def test_refusals(self):
        self.check_refusals(Sieve, (LINE,), ((InvalidPool, wrong_pools()),))
        for pool in (LINE, Pool((silent_web(1),))):
            for value in wrong_numbers(0, len(pool) - 1):
                sieve = Sieve(pool)
                self.refused_number(value, sieve.ban, value)
                self.refused_number(value, sieve.let, value)
                self.same(sieve.left, tuple(range(len(pool))))


if __name__ == "__main__":
    unittest.main()
