"""Words, and what is known behind them [0.11], [5.1]."""

import itertools
import random
import unittest

from rootshared.base.pools import Pool, chain_pool, muted_pool, star_pool
from rootshared.base.webs import Web, chain_web, full_web, silent_web
from rootshared.errors import InvalidNumber, InvalidOperation, InvalidPool, InvalidWord
from rootshared.words.words import (MAX_ROUNDS, all_words, first_round, heard_by_all, is_stall, is_word, known_inputs,
                                    latest, product_web, stall)
from tests.helpers import BOTH, LEFT, LINE, RIGHT, Checks, is_index_row, odd_values, wrong_numbers, wrong_pools, wrong_words
from tests.slow import (ASIDE, NO_ROOTS, drawn_pools, is_pure, known_pools, near, rows_of, slow_heralds,
                        slow_is_stall, slow_known_inputs, slow_latest, slow_words, small_pools)

POOLS = (InvalidPool, wrong_pools())
ROUNDS = (InvalidNumber, wrong_numbers(0, 12))
# As many webs as a pool can have, for five houses.
WIDE = Pool(tuple(chain_pool(5).webs) + (full_web(5), silent_web(5), Web(((1,), (0,), (3,), (2,), (3,)))))


def pools():
    yield from small_pools()
    yield from known_pools()
    yield from drawn_pools(51, (2, 3, 4), (1, 2, 3, 4), 3)
    yield from drawn_pools(52, (3, 4), (5, 6), 3)


def some_words(pool):
    """All words of up to two rounds, and some of up to twelve."""
    chance = random.Random(53)
    found = [word for rounds in (0, 1, 2) for word in slow_words(len(pool), rounds)]
    found.extend(tuple(chance.randrange(len(pool)) for _ in range(rounds)) for rounds in range(3, 13))
    return found


class Words(Checks):
    def test_is_word(self):
        for pool in (LINE, star_pool(3), Pool((silent_web(1),)), WIDE):
            for value in odd_values() + wrong_words(pool):
                self.assertIs(is_word(pool, value), is_index_row(value, len(pool)) and len(value) <= 12, value)
            for value in itertools.chain.from_iterable(itertools.product(range(-1, 5), repeat=many) for many in range(4)):
                self.assertIs(is_word(pool, value), all(0 <= index < len(pool) for index in value))

    def test_twelve_and_thirteen_rounds(self):
        for index in range(3):
            self.assertIs(is_word(LINE, (index,) * 12), True)
            self.assertIs(is_word(LINE, (index,) * 13), False)
        self.same(MAX_ROUNDS, 12)
        self.same(known_inputs(LINE, (0,) * 12), ((0,), (0, 1)))
        self.refused(InvalidWord, known_inputs, LINE, (0,) * 13)

    def test_all_words(self):
        for pool in (LINE, star_pool(3), Pool((silent_web(1),)), Pool((RIGHT, LEFT)), WIDE):
            for rounds in range(0, 5 if len(pool) < 8 else 4):
                found = list(all_words(pool, rounds))
                self.same(found, slow_words(len(pool), rounds))
                self.same(found, sorted(set(found)))

    def test_words_of_no_round_and_of_twelve(self):
        self.same(list(all_words(LINE, 0)), [()])
        self.same(list(all_words(Pool((BOTH,)), 12)), [(0,) * 12])
        self.same(list(itertools.islice(all_words(WIDE, 12), 9)), [(0,) * 11 + (last,) for last in range(8)] + [(0,) * 10 + (1, 0)])
        self.same(len(list(all_words(Pool((RIGHT, LEFT)), 12))), 4096)

    def test_all_words_is_a_generator(self):
        one, other = all_words(LINE, 1), all_words(LINE, 1)
        self.assertIs(iter(one), one)
        self.same((next(one), next(one), next(other)), ((0,), (1,), (0,)))
        self.same((list(one), list(other)), ([(2,)], [(1,), (2,)]))

    def test_all_words_raises_when_its_first_element_is_requested(self):
        for value in wrong_pools():
            words = all_words(value, 1)
            self.refused(InvalidPool, lambda made=words: next(made))
        for value in wrong_numbers(0, 12):
            words = all_words(LINE, value)
            self.refused_number(value, lambda _, made=words: next(made), value)
        words = all_words(None, 13)
        self.refused(InvalidPool, lambda: next(words))
        self.check_refusals(lambda pool, rounds: next(all_words(pool, rounds)), (LINE, 2), (POOLS, ROUNDS))


class Known(Checks):
    def test_known_inputs_and_heard_by_all(self):
        for pool in pools():
            for word in some_words(pool):
                self.same(known_inputs(pool, word), slow_known_inputs(rows_of(pool), word))
                self.same(heard_by_all(pool, word), slow_heralds(rows_of(pool), word))

    def test_five_houses(self):
        for word in some_words(WIDE):
            self.same(known_inputs(WIDE, word), slow_known_inputs(rows_of(WIDE), word))

    def test_no_round(self):
        for size in (1, 2, 3, 4, 5):
            pool = Pool((full_web(size),))
            self.same(known_inputs(pool, ()), tuple((house,) for house in range(size)))
            self.same(heard_by_all(pool, ()), (0,) if size == 1 else ())
            self.same(product_web(pool, ()), silent_web(size))

    def test_what_is_known_only_grows(self):
        for pool in pools():
            for word in some_words(pool):
                for at in range(len(word)):
                    for less, more in zip(known_inputs(pool, word[:at]), known_inputs(pool, word[:at + 1])):
                        self.assertTrue(set(less) <= set(more))

    def test_product_web(self):
        for pool in pools():
            for word in some_words(pool):
                web = silent_web(pool.size)
                for index in word:
                    web = web.then(pool[index])
                self.same(product_web(pool, word), web)
                rows = tuple(web.hears(house) for house in range(pool.size))
                self.same(rows, known_inputs(pool, word))

    def test_first_round(self):
        for pool in pools():
            for word in some_words(pool):
                for house in range(pool.size):
                    heard = [house in slow_heralds(rows_of(pool), word[:at]) for at in range(len(word) + 1)]
                    self.same(first_round(pool, word, house), heard.index(True) if True in heard else None)

    def test_first_round_by_hand(self):
        pool = chain_pool(3)
        self.same([first_round(pool, (0, 0), house) for house in range(3)], [2, None, None])
        self.same([first_round(pool, (0, 1, 2, 0, 0), house) for house in range(3)], [2, 2, 3])
        self.same(first_round(Pool((silent_web(1),)), (0, 0), 0), 0)
        self.same(first_round(LINE, (), 0), None)

    def test_refusals(self):
        for pool in (LINE, Pool((silent_web(1),)), WIDE):
            words = (InvalidWord, wrong_words(pool))
            for call in (known_inputs, heard_by_all, product_web):
                self.check_refusals(call, (pool, (0,)), (POOLS, words))
            houses = (InvalidNumber, wrong_numbers(0, pool.size - 1))
            self.check_refusals(first_round, (pool, (0,), 0), (POOLS, words, houses))
            self.check_refusals(is_word, (pool, (0,)), (POOLS, None))
            self.check_refusals(is_word, (pool, []), (POOLS, None))


class Latest(Checks):
    def test_latest(self):
        for pool in pools():
            for house in range(pool.size):
                self.same(latest(pool, house), slow_latest(rows_of(pool), house))

    def test_latest_by_hand(self):
        self.same([latest(Pool((chain_web(size, 0),)), 0) for size in (1, 2, 3, 4, 5)], [0, 1, 2, 3, 4])
        self.same([latest(star_pool(3), house) for house in range(3)], [None, None, None])
        self.same([latest(Pool((full_web(5),)), house) for house in range(5)], [1] * 5)
        self.same([latest(Pool((silent_web(1),)), 0), latest(Pool((silent_web(2),)), 0)], [0, None])
        mixed = Pool((chain_web(4, 0), chain_web(4, 0).renumbered((0, 3, 2, 1)), full_web(4)))
        self.same(latest(mixed, 0), slow_latest(rows_of(mixed), 0))

    def test_a_number_for_houses_that_are_always_roots(self):
        found = list(pools()) + list(drawn_pools(54, (3, 4, 5), (2, 3), 30)) + [WIDE]
        for pool in found:
            for house in range(pool.size):
                number = latest(pool, house)
                self.assertIs(number is not None, house in pool.always)
                self.assertTrue(number is None or number <= pool.size - 1)


class Stalls(Checks):
    def test_stalls_that_are_found(self):
        for pool in list(pools()) + [WIDE]:
            for house in range(pool.size):
                if latest(pool, house) is not None:
                    self.refused(InvalidOperation, stall, pool, house)
                else:
                    word, index = stall(pool, house)
                    self.assertIs(is_word(pool, word), True)
                    self.assertTrue(slow_is_stall(rows_of(pool), house, word, index))
                    self.assertIs(is_stall(pool, house, (word, index)), True)

    def test_all_pairs_with_short_words(self):
        for pool in list(small_pools()) + [ASIDE, NO_ROOTS, chain_pool(3), muted_pool(3)]:
            for house in range(pool.size):
                for rounds in (0, 1, 2):
                    for word in slow_words(len(pool), rounds):
                        for index in range(len(pool)):
                            wanted = slow_is_stall(rows_of(pool), house, word, index)
                            self.assertIs(is_stall(pool, house, (word, index)), wanted, (word, index))

    def judged(self, pool, house, value):
        if not isinstance(value, tuple) or not is_pure(value) or len(value) != 2:
            return False
        word, index = value
        if not isinstance(word, tuple) or isinstance(index, tuple):
            return False
        right = is_index_row((*word, index), len(pool)) and len(word) <= 12
        return right and slow_is_stall(rows_of(pool), house, word, index)

    def test_values_near_stalls(self):
        for pool, house, value in ((LINE, 0, ((1,), 1)), (LINE, 1, ((), 0)), (chain_pool(3), 1, ((0, 0), 0)),
                                   (chain_pool(4), 0, ((1, 2), 3)), (NO_ROOTS, 1, ((1, 2, 2), 0))):
            for other in itertools.chain([value], near(value)):
                self.assertIs(is_stall(pool, house, other), self.judged(pool, house, other), other)
        for value in odd_values():
            self.assertIs(is_stall(LINE, 0, value), False)
            self.assertIs(is_stall(LINE, 0, (value, 1)), self.judged(LINE, 0, (value, 1)))
            self.assertIs(is_stall(LINE, 0, ((), value)), self.judged(LINE, 0, ((), value)))

    def test_stalls_with_longer_words(self):
        self.assertIs(is_stall(LINE, 0, ((1,) * 12, 1)), True)
        self.assertIs(is_stall(LINE, 0, ((1,) * 13, 1)), False)
        self.assertIs(is_stall(LINE, 0, ((1,) * 11 + (0,), 1)), False)
        self.assertIs(is_stall(LINE, 0, ((), True)), False)
        self.assertIs(is_stall(LINE, 0, [(), 1]), False)

    def test_refusals(self):
        for pool in (LINE, chain_pool(3), Pool((silent_web(1),))):
            houses = (InvalidNumber, wrong_numbers(0, pool.size - 1))
            self.check_refusals(latest, (pool, 0), (POOLS, houses))
            self.check_refusals(stall, (pool, 0), (POOLS, houses))
            self.check_refusals(is_stall, (pool, 0, ((), 0)), (POOLS, houses, None))
            self.check_refusals(is_stall, (pool, 0, None), (POOLS, houses, None))
        self.refused_number(1, stall, Pool((silent_web(1),)), 1)


if __name__ == "__main__":
    unittest.main()
