"""Lots, bars and numbers of rounds [0.12], [0.13], [2.1], [7.1], [7.2]."""

import itertools
import unittest

from rootshared.base.pools import Pool, chain_pool, muted_pool, star_pool
from rootshared.base.webs import Web, full_web, silent_web
from rootshared.errors import InvalidNumber, InvalidOperation, InvalidPool, InvalidWord, TooMany
from rootshared.groups.groups import can_agree, is_closed
from rootshared.words import lots, views
from rootshared.words.lots import agree_in, bar, is_bar, least_rounds, lot_heralds, lot_way, lots_of
from tests.helpers import (BOTH, LEFT, LINE, RIGHT, Checks, all_heard, is_index_row, odd_values, wrong_numbers,
                           wrong_pools, wrong_words)
from tests.slow import (ASIDE, NO_ROOTS, drawn_pools, groups_of, is_pure, near, rows_of, slow_heralds, slow_is_bar,
                        slow_lot_heralds, slow_lots, slow_shared, slow_words, small_pools)

POOLS = (InvalidPool, wrong_pools())
ROUNDS = (InvalidNumber, wrong_numbers(0, 12))
EIGHT = Pool(tuple(Web(heard) for heard in all_heard(3, 9))[:8])
# House 0 is always a root: it is heard by all behind four rounds, but not behind three.
FOUR = Pool(tuple(Web(((), (0,) + one, (1,) + two, (2,) + three, (3,)))
                  for one, two, three in itertools.product(((), (2,)), ((), (4,)), ((), (4,)))))
# They can agree, but not in four rounds, and more are too many for six webs.
LATE = Pool((Web(((), (0,), (1, 3), (2,), (3,))), Web(((3,), (3,), (4,), (), (1,))), Web(((), (0,), (1,), (2,), (3,))),
             Web(((4,), (0,), (), (2,), (2, 3))), Web(((1,), (4,), (), (1, 2), (3,))), Web(((), (0,), (1, 3), (2, 4), (2,)))))


def pools():
    yield from small_pools()
    yield from (ASIDE, NO_ROOTS, star_pool(3), chain_pool(3), muted_pool(3))
    yield from drawn_pools(71, (2, 3), (2, 3, 4), 4)
    yield from drawn_pools(72, (3,), (5,), 4)


def rounds_for(pool):
    """Numbers of rounds with at most 125 words."""
    return [rounds for rounds in range(5) if len(pool) ** rounds <= 125]


def judged(pool, value):
    """Whether the value is a bar, by the words of the document."""
    if not isinstance(value, tuple) or not is_pure(value) or not value:
        return False
    if not all(is_index_row(word, len(pool)) and len(word) <= 12 for word in value):
        return False
    return len({len(word) for word in value}) == 1 and slow_is_bar(rows_of(pool), value)


class Lots(Checks):
    def test_lots_and_heralds(self):
        for pool in pools():
            for rounds in rounds_for(pool):
                self.same(lots_of(pool, rounds), slow_lots(rows_of(pool), rounds))
                self.same(lot_heralds(pool, rounds), slow_lot_heralds(rows_of(pool), rounds))
                self.assertIs(agree_in(pool, rounds), () not in slow_lot_heralds(rows_of(pool), rounds))

    def test_no_round(self):
        for pool in pools():
            self.same(lots_of(pool, 0), (((),),))
            self.same(lot_heralds(pool, 0), ((0,) if pool.size == 1 else (),))
            self.assertIs(agree_in(pool, 0), pool.size == 1)

    def test_known_lots(self):
        for rounds in (1, 2, 3, 7):
            self.same(len(lots_of(LINE, rounds)), 1)
            self.same(lot_heralds(LINE, rounds), ((),))
        self.same(lots_of(star_pool(3), 1), (((0,),), ((1,),), ((2,),)))
        self.same(lots_of(Pool((BOTH,)), 12), (((0,) * 12,),))

    def test_refusals(self):
        for call in (lots_of, lot_heralds, agree_in, bar):
            for pool in (LINE, chain_pool(3), Pool((silent_web(2),))):
                self.check_refusals(call, (pool, 1), (POOLS, ROUNDS))
        self.check_refusals(is_bar, (LINE, ((),)), (POOLS, None))
        self.check_refusals(is_bar, (LINE, None), (POOLS, None))


class TooManyWords(Checks):
    def test_4096_words_are_let(self):
        for pool, rounds in ((Pool((RIGHT, LEFT)), 12), (EIGHT.part((1, 3, 4, 6)), 6), (EIGHT, 4)):
            self.same(sum(len(lot) for lot in lots_of(pool, rounds)), 4096)
            self.same(len(lot_heralds(pool, rounds)), len(lots_of(pool, rounds)))
            self.assertIs(agree_in(pool, rounds), all(lot_heralds(pool, rounds)))
            self.same(lot_way(pool, (1,) * rounds, (1,) * rounds), ((1,) * rounds,))
        self.assertIs(agree_in(Pool((RIGHT, LEFT)), 12), True)
        self.same((lots.MAX_WORDS, views.MOST_WORDS), (4096, 4096))

    def test_more_words_are_not(self):
        for many, rounds in ((3, 8), (6, 5), (5, 6), (4, 7), (8, 5), (8, 12), (3, 12)):
            pool = EIGHT.part(tuple(range(many)))
            for call in (lots_of, lot_heralds, agree_in, bar):
                self.assertEqual(self.refused(TooMany, call, pool, rounds).limit, 4096)
            self.assertEqual(self.refused(TooMany, lot_way, pool, (0,) * rounds, (0,) * rounds).limit, 4096)

    def test_what_comes_ahead_of_it(self):
        self.refused_number(13, lots_of, EIGHT, 13)
        self.refused(InvalidPool, lots_of, EIGHT.webs, 12)
        self.refused(InvalidOperation, lot_way, EIGHT, (0,) * 12, (0,) * 11)
        self.refused(InvalidWord, lot_way, EIGHT, (0,) * 12, (0,) * 13)

    def test_bars_that_are_none_come_behind_it(self):
        stars = star_pool(4)
        self.refused(InvalidOperation, bar, stars, 6)
        self.refused(TooMany, bar, stars, 7)


class Bars(Checks):
    def test_bars_that_are_found(self):
        for pool in pools():
            for rounds in rounds_for(pool):
                if () in slow_lot_heralds(rows_of(pool), rounds):
                    value = bar(pool, rounds)
                    self.assertTrue(judged(pool, value), value)
                    self.assertTrue(all(len(word) == rounds for word in value))
                    self.assertIs(is_bar(pool, value), True)
                    self.assertLessEqual(len(value), 5000)
                else:
                    self.refused(InvalidOperation, bar, pool, rounds)

    def test_all_short_rows(self):
        for pool in list(small_pools()) + [ASIDE, star_pool(3), chain_pool(3)]:
            for rounds in (0, 1, 2) if len(pool) < 4 else (0, 1):
                words = slow_words(len(pool), rounds)
                for many in (1, 2, 3) if len(words) < 9 else (1, 2):
                    for value in itertools.product(words, repeat=many):
                        self.assertIs(is_bar(pool, value), slow_is_bar(rows_of(pool), value), value)

    def test_values_near_bars(self):
        for pool, rounds in ((LINE, 1), (LINE, 2), (chain_pool(3), 2), (muted_pool(3), 1), (star_pool(3), 0), (NO_ROOTS, 3)):
            value = bar(pool, rounds)
            for other in itertools.chain([value], near(value)):
                self.assertIs(is_bar(pool, other), judged(pool, other), other)
        for value in odd_values():
            self.assertIs(is_bar(LINE, value), judged(LINE, value), value)
            self.assertIs(is_bar(LINE, (value,)), judged(LINE, (value,)), value)
            self.assertIs(is_bar(LINE, ((0,), (2,), value)), judged(LINE, ((0,), (2,), value)), value)

    def test_no_words_and_words_of_unlike_lengths(self):
        self.assertIs(is_bar(LINE, ()), False)
        self.assertIs(is_bar(LINE, ((),)), True)
        self.assertIs(is_bar(LINE, ((), ())), True)
        pool = Pool((silent_web(2),))
        for one, other in itertools.product(range(4), repeat=2):
            self.assertIs(is_bar(pool, ((0,) * one, (0,) * other)), one == other)

    def test_bars_up_to_twelve_rounds(self):
        pool = Pool((RIGHT, silent_web(2)))
        for rounds in range(15):
            self.assertIs(is_bar(pool, ((1,) * rounds,)), rounds <= 12)
            self.assertIs(is_bar(pool, ((1,) * rounds,) * 3), rounds <= 12)
        self.assertIs(is_bar(pool, ((1,) * 11 + (0,),)), False)
        # House 0 hears nobody in either web.
        self.assertIs(is_bar(pool, ((0,) * 12, (1,) * 12)), True)
        self.assertIs(is_bar(pool, ((0,) * 13, (1,) * 13)), False)
        apart = Pool((Web(((1,), (), ())), Web(((), (), (0,)))))
        for rounds in range(1, 13):
            words = ((0,) * rounds, (1,) + (0,) * (rounds - 1))
            self.assertIs(is_bar(apart, words), judged(apart, words))

    def test_bars_that_are_longer_than_needed(self):
        value = ((0,), (2,), (1,))
        for longer in (value + value[::-1], value[::-1], value[:1] * 40 + value, (value + value[1::-1]) * 2000):
            self.assertIs(is_bar(LINE, longer), True)
        for wrong in (value[:2], value[1:], (value[0], value[2]), (value[2], value[0], value[1])):
            self.assertIs(is_bar(LINE, wrong), False)

    def test_the_longest_bars(self):
        # Of all pools these need the longest: all words stand in one row.
        for rounds in range(1, 8):
            value = bar(LINE, rounds)
            self.same(len(value), 3 ** rounds)
            self.assertIs(is_bar(LINE, value), True)
            self.assertIs(is_bar(LINE, value[1:]), False)
            self.assertIs(is_bar(LINE, value[:1] + value[2:]), False)
            self.assertIs(is_bar(LINE, value[:-1]), False)

    def test_bars_of_many_words(self):
        for pool, rounds in ((EIGHT, 4), (EIGHT.part((0, 1, 2, 5)), 6), (Pool((silent_web(5), full_web(5))), 12),
                             (chain_pool(3), 7), (chain_pool(4), 6), (chain_pool(5), 5)):
            value = bar(pool, rounds)
            self.assertTrue(judged(pool, value) and len(value) <= 5000)
            self.assertIs(is_bar(pool, value), True)


class LeastRounds(Checks):
    def test_least_rounds(self):
        told = set()
        for pool in pools():
            agreed = [rounds for rounds in rounds_for(pool) if () not in slow_lot_heralds(rows_of(pool), rounds)]
            for most in rounds_for(pool):
                wanted = agreed[0] if agreed and agreed[0] <= most else None
                told.add(wanted)
                self.same(least_rounds(pool, most=most), wanted)
        self.assertTrue({None, 0, 1, 2} <= told)

    def test_most_is_three_at_first(self):
        chain = Pool((Web(((), (0,), (1,), (2,), (3,))),))
        self.same([least_rounds(chain), least_rounds(chain, most=3), least_rounds(chain, most=4)], [None, None, 4])
        self.same([least_rounds(chain, most=most) for most in (0, 1, 2, 12)], [None, None, None, 4])
        four = Pool((Web(((), (0,), (1,), (2,))),))
        self.same([least_rounds(four), least_rounds(four, most=2)], [3, None])

    def test_one_house(self):
        for most in range(13):
            self.same(least_rounds(Pool((silent_web(1),)), most=most), 0)

    def test_more_rounds_than_are_looked_at_are_not_too_many(self):
        # Eight webs have too many words of five rounds.
        self.same((len(FOUR), FOUR.always), (8, (0,)))
        self.same([least_rounds(FOUR), least_rounds(FOUR, most=4), least_rounds(FOUR, most=12)], [None, 4, 4])
        stars = Pool(tuple(star_pool(5).webs) + (full_web(5),))
        self.same(least_rounds(stars, most=12), min(rounds for rounds in range(5) if agree_in(stars, rounds)))

    def test_too_many_words_ahead_of_the_least_number(self):
        self.assertIs(can_agree(LATE), True)
        for most in (5, 6, 12):
            error = self.refused(TooMany, lambda number: least_rounds(LATE, most=number), most)
            self.assertEqual(error.limit, 4096)
        self.same([least_rounds(LATE), least_rounds(LATE, most=4)], [None, None])
        self.refused_number(13, lambda number: least_rounds(LATE, most=number), 13)

    def test_no_word_is_looked_at_if_they_cannot_agree_at_all(self):
        for pool in (EIGHT, chain_pool(5), LINE, muted_pool(2), NO_ROOTS):
            self.assertIs(can_agree(pool), False)
            self.same(least_rounds(pool, most=12), None)

    def test_refusals(self):
        call = lambda pool, most: least_rounds(pool, most=most)
        for pool in (LINE, star_pool(3), Pool((silent_web(1),))):
            self.check_refusals(call, (pool, 3), (POOLS, ROUNDS))
        with self.assertRaises(TypeError):
            least_rounds(LINE, 3)


class LotWays(Checks):
    def test_ways_between_all_words(self):
        for pool in pools():
            for rounds in [rounds for rounds in rounds_for(pool) if len(pool) ** rounds <= 27]:
                lot_of = {word: lot for lot in slow_lots(rows_of(pool), rounds) for word in lot}
                for one, other in itertools.product(lot_of, repeat=2):
                    way = lot_way(pool, one, other)
                    if other in lot_of[one]:
                        self.check_way(pool, way, one, other)
                    else:
                        self.same(way, None)

    def check_way(self, pool, way, one, other):
        self.assertIs(way.__class__, tuple)
        self.same((way[0], way[-1]), (one, other))
        self.assertLessEqual(len(way), 5000)
        for first, second in zip(way, way[1:]):
            self.assertTrue(slow_shared(rows_of(pool), first, second))

    def test_a_word_is_in_a_lot_with_itself(self):
        for word in ((), (0,), (2, 1), (1,) * 6):
            self.check_way(star_pool(3), lot_way(star_pool(3), word, word), word, word)

    def test_long_ways(self):
        way = lot_way(LINE, (0,) * 7, (1,) * 7)
        self.check_way(LINE, way, (0,) * 7, (1,) * 7)
        self.same(len(way), 3 ** 7)

    def test_unlike_lengths(self):
        for one, other in (((), (0,)), ((0, 0), (0,)), ((0,) * 12, ())):
            self.refused(InvalidOperation, lot_way, LINE, one, other)
            self.refused(InvalidWord, lot_way, LINE, one, (*other, 3))

    def test_refusals(self):
        for pool in (LINE, Pool((silent_web(1),))):
            words = (InvalidWord, wrong_words(pool))
            self.check_refusals(lot_way, (pool, (0,), (0,)), (POOLS, words, words))


class Promises(Checks):
    def test_known_pools(self):
        for size in (2, 3, 4, 5):
            self.same(least_rounds(star_pool(size)), 1)
            self.same(least_rounds(muted_pool(size)), None if size == 2 else 2)
            self.assertIs(agree_in(muted_pool(size), 1), False)
            if size > 2:
                self.same(least_rounds(chain_pool(size)), None)
        self.same(least_rounds(LINE, most=12), None)
        self.same([least_rounds(LINE.part(group)) for group in ((0, 1), (0, 2), (1, 2))], [1, 1, 1])

    def test_lots_of_one_round_more(self):
        for pool in pools():
            for rounds in rounds_for(pool)[1:]:
                before = lots_of(pool, rounds - 1)
                for lot in lots_of(pool, rounds):
                    shorter = {word[:-1] for word in lot}
                    self.assertTrue(any(shorter <= set(less) for less in before))

    def test_any_greater_number_of_rounds(self):
        for pool in pools():
            told = [agree_in(pool, rounds) for rounds in rounds_for(pool)]
            self.assertEqual(told, sorted(told))

    def test_some_number_exactly_if_there_is_no_obstacle(self):
        for pool in list(pools()) + list(drawn_pools(74, (2, 3), (2, 3), 20)):
            number = least_rounds(pool, most={1: 12, 2: 12, 3: 7, 4: 6}.get(len(pool), 5))
            self.assertIs(number is not None, can_agree(pool), rows_of(pool))

    def test_parts_need_no_more_rounds(self):
        for pool in pools():
            number = least_rounds(pool)
            if number is not None:
                for group in groups_of(len(pool)):
                    self.assertTrue(least_rounds(pool.part(group)) <= number)

    def test_words_of_a_connected_group_are_in_one_lot(self):
        found = 0
        for pool in pools():
            for group in [group for group in groups_of(len(pool)) if len(group) > 1 and is_closed(pool, group)]:
                for rounds in rounds_for(pool):
                    words = set(itertools.product(group, repeat=rounds))
                    self.assertTrue(any(words <= set(lot) for lot in lots_of(pool, rounds)))
                    found += 1
        self.assertTrue(found > 30)

    def test_heralds_are_heard_behind_each_word(self):
        for pool in pools():
            for rounds in rounds_for(pool)[:3]:
                for lot, heralds in zip(lots_of(pool, rounds), lot_heralds(pool, rounds)):
                    for house in heralds:
                        self.assertTrue(all(house in slow_heralds(rows_of(pool), word) for word in lot))


if __name__ == "__main__":
    unittest.main()
