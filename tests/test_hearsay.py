"""Hearsay of stage 5: what houses know, round by round."""

import random
import unittest

from rootshared.base.pools import Pool, chain_pool, star_pool
from rootshared.base.webs import silent_web
from rootshared.errors import InvalidPool, NothingToUndo, TooMany
from rootshared.words.words import Hearsay
from tests.helpers import (LINE, SIXTY_DIGITS, Checks, odd_values, repr_of, wrong_numbers, wrong_pools, wrong_undos)
from tests.slow import NO_ROOTS, drawn_pools, rows_of, slow_heralds, slow_known_inputs


def news_of(rows, word):
    """The pairs of which the first house knows of the second one only behind the last round of the word."""
    before, after = slow_known_inputs(rows, word[:-1]), slow_known_inputs(rows, word)
    houses = range(len(before))
    return tuple((one, two) for one in houses for two in houses if two in after[one] and two not in before[one])


class Going(Checks):
    def check_state(self, hearsay, pool, word):
        self.same((hearsay.pool, hearsay.word, len(hearsay)), (pool, word, len(word)))
        self.same(hearsay.known, slow_known_inputs(rows_of(pool), word))
        self.same(hearsay.heralds, slow_heralds(rows_of(pool), word))
        self.same(str(hearsay), f"hearsay: {len(word)} rounds on {pool.size} houses")

    def test_many_rounds_and_some_taken_back(self):
        chance = random.Random(55)
        for pool in list(drawn_pools(56, (2, 3, 4), (2, 4), 3)) + [LINE, chain_pool(4), NO_ROOTS, Pool((silent_web(1),))]:
            hearsay, word = Hearsay(pool), ()
            self.check_state(hearsay, pool, word)
            for _ in range(60):
                many = chance.randrange(len(word) + 1)
                if len(word) == 12 or chance.randrange(5) == 0:
                    self.same(hearsay.undo(many=many), word[len(word) - many:][::-1])
                    word = word[:len(word) - many]
                else:
                    index = chance.randrange(len(pool))
                    word = word + (index,)
                    self.same(hearsay.go(index), news_of(rows_of(pool), word))
                self.check_state(hearsay, pool, word)

    def test_by_hand(self):
        hearsay = Hearsay(chain_pool(3))
        self.same(str(hearsay), "hearsay: 0 rounds on 3 houses")
        self.same(hearsay.go(0), ((1, 0), (2, 1)))
        self.same(hearsay.go(0), ((2, 0),))
        self.same(hearsay.go(0), ())
        self.same((hearsay.known, hearsay.heralds), (((0,), (0, 1), (0, 1, 2)), (0,)))
        self.same(hearsay.go(2), ((0, 1), (0, 2)))
        self.same((hearsay.word, len(hearsay)), ((0, 0, 0, 2), 4))
        self.same(hearsay.undo(many=3), (2, 0, 0))
        self.same((hearsay.word, hearsay.known), ((0,), ((0,), (0, 1), (1, 2))))

    def test_no_more_than_twelve_rounds(self):
        hearsay = Hearsay(LINE)
        for _ in range(12):
            hearsay.go(0)
        before = repr_of(hearsay)
        for index in range(3):
            self.assertEqual(self.refused(TooMany, hearsay.go, index).limit, 12)
        # What is no web is refused first.
        self.refused_number(3, hearsay.go, 3)
        self.assertEqual(repr_of(hearsay), before)
        hearsay.undo()
        self.same((hearsay.go(1), len(hearsay)), (((0, 1),), 12))

    def test_refusals(self):
        self.check_refusals(Hearsay, (LINE,), ((InvalidPool, wrong_pools()),))
        for pool in (LINE, Pool((silent_web(1),))):
            hearsay = Hearsay(pool)
            for value in wrong_numbers(0, len(pool) - 1):
                self.refused_number(value, hearsay.go, value)
            self.same((hearsay.word, len(hearsay)), ((), 0))


class Undoing(Checks):
    def test_more_than_there_are(self):
        hearsay = Hearsay(LINE)
        hearsay.go(0)
        hearsay.go(2)
        for many in (3, 12, SIXTY_DIGITS):
            self.assertEqual(self.refused(NothingToUndo, lambda: hearsay.undo(many=many)).many, many)
            self.same(hearsay.word, (0, 2))
        self.same((hearsay.undo(many=0), hearsay.undo(many=2), hearsay.undo(many=0)), ((), (2, 0), ()))
        self.assertEqual(self.refused(NothingToUndo, hearsay.undo).many, 1)
        self.same(hearsay.known, ((0,), (1,)))

    def test_many_is_an_integer_of_at_least_0(self):
        hearsay = Hearsay(LINE)
        hearsay.go(0)
        for value in wrong_undos():
            self.refused_number(value, lambda many: hearsay.undo(many=many), value)
        self.same(hearsay.word, (0,))

    def test_many_is_a_keyword(self):
        with self.assertRaises(TypeError):
            Hearsay(LINE).undo(0)


class HearsayAsValue(Checks):
    def test_twins_go_on_by_themselves(self):
        hearsay = Hearsay(star_pool(3))
        hearsay.go(1)
        twin = hearsay.twin()
        self.assertIs(twin == hearsay, True)
        twin.go(0)
        self.same((hearsay.word, twin.word), ((1,), (1, 0)))
        self.same((hearsay.heralds, twin.heralds), ((1,), (0, 1)))
        self.assertIs(twin == hearsay, False)
        self.same(twin.undo(many=2), (0, 1))
        self.same((hearsay.word, hearsay.known), ((1,), ((0, 1), (1,), (1, 2))))
        hearsay.go(2)
        self.same((hearsay.word, twin.word, twin.known), ((1, 2), (), ((0,), (1,), (2,))))

    def test_equal_by_pools_and_words(self):
        one, other = Hearsay(LINE), Hearsay(Pool(LINE.webs))
        self.assertIs(one == other, True)
        one.go(0)
        self.assertIs(one == other, False)
        self.assertIs(one != other, True)
        other.go(1)
        self.assertIs(one == other, False)
        other.undo()
        other.go(0)
        self.assertIs(one == other, True)
        self.assertIs(Hearsay(LINE) == Hearsay(LINE.part((0, 1))), False)

    def test_equal_accepts_every_value(self):
        hearsay = Hearsay(star_pool(3))
        for value in odd_values() + [(), 0, "hearsay: 0 rounds on 3 houses", star_pool(3)]:
            self.assertIs(hearsay == value, False)
            self.assertIs(value == hearsay, False)
            self.assertIs(hearsay != value, True)

    def test_no_iteration(self):
        for call in (iter, list, tuple, sorted):
            with self.assertRaises(TypeError):
                call(Hearsay(LINE))


if __name__ == "__main__":
    unittest.main()
