"""Programs that are made [11.1], [11.2]."""

import unittest

from rootshared.base.pools import Pool, chain_pool, muted_pool, star_pool
from rootshared.base.webs import Web, chain_web, full_web, silent_web
from rootshared.errors import InvalidNumber, InvalidOperation, InvalidPool, TooMany
from rootshared.make.makers import herald_program, made_program
from rootshared.programs.checks import configurations, is_right, is_right_paper, right_paper, slowest
from rootshared.programs.runs import Run
from rootshared.words.lots import least_rounds
from tests.helpers import BOTH, LINE, RIGHT, Checks, repr_of, wrong_numbers, wrong_pools
from tests.slow import (drawn_pools, known_pools, rows_of, slow_known_inputs, slow_lot_heralds, slow_roots, slow_view,
                        slow_words)
from tests.slow_programs import inputs_of, slow_kinds, small_pools_for_programs

# Pools of which the v(s) come to just so many.
STATES_398 = (((2,), (0,), (0,), (0,), (0,)), ((1,), (2, 3, 4), (3, 4), (2,), (1, 3)))
STATES_400 = (((), (0,), (0,), (0,), (0,)), ((2, 4), (0,), (0, 4), (0,), (0,)))
MOVES_4000 = (
    ((2, 3, 4), (0, 3), (0, 4), (0, 2), (0, 2, 3)), ((1, 2, 3, 4), (4,), (0, 1, 4), (0, 1, 2), (0, 2)),
    ((), (0,), (0,), (0, 1, 2), (0,)), ((1, 2, 3, 4), (0, 2, 3, 4), (1, 3), (0, 1, 2, 4), (0, 1)),
    ((3,), (0, 2, 3), (3, 4), (0, 2), (1, 2, 3)), ((), (0, 2), (0,), (0, 1, 4), (0, 1)))
MOVES_4004 = (
    ((2, 4), (0, 3), (0,), (0,), (0, 3)), ((1, 2, 3, 4), (0, 2, 4), (0, 1, 4), (0, 1, 2), (0, 2)),
    ((), (0,), (0,), (0, 1, 2), (0,)), ((1, 2, 3, 4), (0, 2, 3, 4), (0, 1, 3, 4), (0, 1, 2, 4), (0, 1)),
    ((3,), (0, 2, 3), (0, 3, 4), (0, 2), (0, 2, 3)), ((4,), (0, 2), (0,), (0, 1, 4), (0, 1)))


def pool_of(rows):
    return Pool(tuple(Web(heard) for heard in rows))


def slow_triples(rows, rounds):
    """v(rounds): how many triples there are of a house, a view of it, and inputs that it knows with it."""
    found = set()
    for word in slow_words(len(rows), rounds):
        known = slow_known_inputs(rows, word)
        for house in range(len(rows[0])):
            for inputs in inputs_of(len(known[house])):
                found.add((house, slow_view(rows, word, house), inputs))
    return len(found)


def slow_refusal(rows, rounds):
    """The error that `made_program` must raise with its limit, or None."""
    if len(rows) ** rounds > 4096:
        return TooMany, 4096
    if () in slow_lot_heralds(rows, rounds):
        return InvalidOperation, None
    triples = [slow_triples(rows, passed) for passed in range(rounds + 1)]
    if sum(triples[:-1]) > 398:
        return TooMany, 400
    if sum(triples[1:]) > 4000:
        return TooMany, 4000
    return None, None


class Made(Checks):
    def check_made(self, pool, rounds):
        """What was made or refused, after a check of it."""
        error, limit = slow_refusal(rows_of(pool), rounds)
        if error is not None:
            told = self.refused(error, made_program, pool, rounds)
            self.assertEqual(getattr(told, "limit", None), limit)
            return limit or error
        self.check_program(made_program(pool, rounds), pool, rounds)
        return "made"

    def check_program(self, program, pool, rounds):
        self.same(program.size, pool.size)
        self.assertIs(is_right(program, pool), True)
        self.assertIs(is_right_paper(program, pool, right_paper(program, pool)), True)
        self.assertTrue(least_rounds(pool, most=rounds) <= slowest(program, pool) <= rounds)
        for inputs in inputs_of(pool.size):
            self.assertTrue(len(configurations(program, pool, inputs)) <= 10000)

    def test_from_the_least_number_of_rounds_on(self):
        told = {}
        for pool in small_pools_for_programs():
            for rounds in range(6 if len(pool) < 4 else 5):
                kind = self.check_made(pool, rounds)
                told[kind] = told.get(kind, 0) + 1
        self.assertTrue(told["made"] > 50 and told[InvalidOperation] > 50 and told[400] > 5, told)

    def test_more_houses(self):
        told = set()
        for pool in list(drawn_pools(111, (4, 5), (1, 2, 3), 6)) + [muted_pool(4), star_pool(4), star_pool(5)]:
            for rounds in range(4):
                told.add(self.check_made(pool, rounds))
        self.assertTrue({"made", InvalidOperation, 400} <= told, told)

    def test_all_houses_have_decided_behind_each_word(self):
        for pool, rounds in ((star_pool(3), 1), (star_pool(3), 2), (muted_pool(3), 2), (LINE.part((0, 1)), 3)):
            program = made_program(pool, rounds)
            for inputs in inputs_of(pool.size):
                for word in slow_words(len(pool), rounds):
                    run = Run(program, pool, inputs)
                    run.follow(word)
                    self.assertIs(bool(run), False)
                    self.assertEqual(len(set(run.decisions)), 1)
                    self.assertIn(run.decisions[0], inputs)

    def test_no_rounds(self):
        one = Pool((silent_web(1),))
        program = made_program(one, 0)
        self.same((slowest(program, one), Run(program, one, (0,)).decisions, Run(program, one, (1,)).decisions), (0, (0,), (1,)))
        self.refused(InvalidOperation, made_program, LINE.part((0,)), 0)

    def test_many_rounds(self):
        one, two = Pool((silent_web(1),)), Pool((RIGHT,))
        for rounds in range(13):
            self.assertEqual(self.check_made(one, rounds), "made")
        for rounds in range(1, 13):
            self.assertEqual(self.check_made(two, rounds), "made")
        self.same(made_program(one, 12).states <= 400, True)

    def test_programs_for_chains_of_one_web(self):
        for size in (2, 3, 4, 5):
            pool = Pool((chain_web(size, 0),))
            for rounds in range(size + 1):
                error = InvalidOperation if rounds < size - 1 else "made"
                self.assertEqual(self.check_made(pool, rounds), error)

    def test_faster_than_no_program_can_be(self):
        for pool in known_pools():
            least = least_rounds(pool, most=2)
            for rounds in range(least or 0):
                self.refused(InvalidOperation, made_program, pool, rounds)


class Limits(Checks):
    def test_as_many_states_as_there_can_be(self):
        pool = pool_of(STATES_398)
        self.assertEqual(sum(slow_triples(STATES_398, passed) for passed in range(3)), 398)
        program = made_program(pool, 3)
        self.assertTrue(program.states <= 400)
        self.assertIs(is_right(program, pool), True)
        self.assertEqual(sum(slow_triples(STATES_400, passed) for passed in range(4)), 400)
        self.assertEqual(slow_refusal(STATES_400, 3), (None, None))
        self.assertEqual(self.refused(TooMany, made_program, pool_of(STATES_400), 4).limit, 400)

    def test_as_many_moves_as_there_can_be(self):
        pool = pool_of(MOVES_4000)
        self.assertEqual(slow_triples(MOVES_4000, 1) + slow_triples(MOVES_4000, 2), 4000)
        program = made_program(pool, 2)
        self.assertTrue(len(program) <= 4000)
        self.assertIs(is_right(program, pool), True)
        self.assertEqual(slow_triples(MOVES_4004, 1) + slow_triples(MOVES_4004, 2), 4004)
        self.assertEqual(self.refused(TooMany, made_program, pool_of(MOVES_4004), 2).limit, 4000)

    def test_more_words_than_4096(self):
        # With it the houses cannot agree, which is told behind the number of words alone.
        for pool, rounds in ((LINE, 8), (LINE, 12), (star_pool(2), 12), (chain_pool(5), 6), (muted_pool(5), 5)):
            if len(pool) ** rounds > 4096:
                self.assertEqual(self.refused(TooMany, made_program, pool, rounds).limit, 4096)
        self.refused(InvalidOperation, made_program, LINE, 7)
        self.assertEqual(self.refused(TooMany, made_program, star_pool(2), 12).limit, 400)

    def test_houses_that_cannot_agree_ahead_of_many_states(self):
        rows = rows_of(chain_pool(4))
        self.assertTrue(sum(slow_triples(rows, passed) for passed in range(4)) > 398)
        self.refused(InvalidOperation, made_program, chain_pool(4), 4)

    def test_states_ahead_of_moves(self):
        rows = rows_of(star_pool(5))
        self.assertTrue(sum(slow_triples(rows, passed) for passed in range(1, 4)) > 4000)
        self.assertEqual(self.refused(TooMany, made_program, star_pool(5), 3).limit, 400)

    def test_refusals(self):
        kinds = ((InvalidPool, wrong_pools()), (InvalidNumber, wrong_numbers(0, 12)))
        self.check_refusals(made_program, (star_pool(3), 1), kinds)
        self.refused_number(13, made_program, LINE, 13)

    def test_calls_change_nothing(self):
        pool = muted_pool(3)
        before = repr_of(pool)
        program = made_program(pool, 2)
        program.moves.clear()
        program.decisions.clear()
        self.assertEqual(repr_of(pool), before)
        self.assertIs(made_program(pool, 2) == program, True)
        self.assertIs(is_right(program, pool), True)


class Heralds(Checks):
    def test_each_house_that_is_always_a_root(self):
        told = {True: 0, False: 0}
        pools = small_pools_for_programs() + list(drawn_pools(112, (4, 5), (1, 2), 6)) + [Pool((full_web(5),)), Pool((chain_web(5, 0),))]
        for pool in pools:
            for house in range(pool.size):
                always = all(house in slow_roots(heard) for heard in rows_of(pool))
                told[always] += 1
                if always:
                    self.check_herald(pool, house)
                else:
                    self.refused(InvalidOperation, herald_program, pool, house)
        self.assertTrue(min(told.values()) > 50, told)

    def check_herald(self, pool, house):
        program = herald_program(pool, house)
        self.assertEqual(slow_kinds(program, rows_of(pool), tuple(range(len(pool)))), set())
        self.assertIs(is_right(program, pool), True)
        self.assertTrue(slowest(program, pool) <= 50)
        for inputs in inputs_of(pool.size):
            found = configurations(program, pool, inputs)
            self.assertTrue(len(found) <= 10000)
            made = {program.decisions[state] for row in found for state in row if state in program.decisions}
            self.assertEqual(made, {inputs[house]})

    def test_refusals(self):
        kinds = ((InvalidPool, wrong_pools()), (InvalidNumber, wrong_numbers(0, 1)))
        self.check_refusals(herald_program, (Pool((RIGHT, BOTH)), 0), kinds)
        self.refused_number(2, herald_program, LINE, 2)
        self.refused(InvalidOperation, herald_program, LINE, 0)
        self.refused(InvalidOperation, herald_program, Pool((silent_web(2),)), 1)


if __name__ == "__main__":
    unittest.main()
