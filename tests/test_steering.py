"""Programs that are driven [12.1], [12.2]."""

import itertools
import random
import unittest

from rootshared.base.pools import Pool, star_pool
from rootshared.base.webs import silent_web
from rootshared.errors import (InvalidGroup, InvalidInputs, InvalidNumber, InvalidOperation, InvalidPool, InvalidProgram,
                               InvalidWord, TooMany)
from rootshared.make.makers import made_program
from rootshared.make.steering import (Drive, decisions_ahead, driven_fault, is_open, is_open_word, open_inputs,
                                      open_word)
from rootshared.programs.checks import is_fault
from rootshared.programs.programs import Program
from tests.helpers import (LINE, TELL, Checks, wrong_groups, wrong_inputs, wrong_numbers, wrong_pools_for, wrong_programs,
                           wrong_rows)
from tests.slow import groups_of, near, rows_of, slow_closed, slow_common_roots, slow_trail
from tests.slow_programs import (COUNTING, Walk, cases, chasing_program, counting_program, forking_program, inputs_of, own_program,
                                 silent_program, slow_is_fault, slow_kinds, telling_program, walks_of)

PROGRAMS = (InvalidProgram, wrong_programs())
CHASE = chasing_program()
WIDE = counting_program(150, 150)
# More than 20000 configurations, but only with the inputs (1, 1).
SOMETIMES = counting_program(150, 150, ((149, 0), (299, 150)))


def group_cases(seed, leap):
    """Triples of a program, a pool, and a group of it."""
    for program, pool in list(cases(seed))[::leap]:
        for group in groups_of(len(pool))[::2]:
            yield program, pool, group


def wrong_words_in(group):
    """Values that are no tuples of at most 2000 indices of the group."""
    near_ones = [(index,) for index in (-1, True, False, None, "0", (0,), 10 ** 60)]
    near_ones.extend([(index,) for index in range(9) if index not in group])
    near_ones.extend([group + (9,), list(group), (group[0],) * 2001, (group[0],) * 4000, (group[0],) * 5 + (None,)])
    rows = [value for value in wrong_rows(9) if not (isinstance(value, tuple) and value == ())]
    return near_ones + rows


class Ahead(Checks):
    def test_against_a_slow_walk(self):
        told = {}
        for program, pool, group in group_cases(21, 5):
            for inputs in inputs_of(program.size):
                walk = Walk(program, rows_of(pool), inputs, group)
                for word in [word for rounds in range(3) for word in itertools.product(group, repeat=rounds)][::3]:
                    wanted = walk.ahead(slow_trail(program, rows_of(pool), inputs, word)[-1])
                    self.same(decisions_ahead(program, pool, inputs, group, word), wanted)
                    self.assertIs(is_open(program, pool, inputs, group, word), wanted == (0, 1))
                    told[wanted] = told.get(wanted, 0) + 1
        self.assertEqual(set(told), {(), (0,), (1,), (0, 1)})
        self.assertTrue(min(told.values()) > 20, told)

    def test_by_hand(self):
        group = (0, 1, 2)
        self.same(decisions_ahead(CHASE, LINE, (0, 1), group, ()), (0, 1))
        self.same(decisions_ahead(CHASE, LINE, (0, 1), group, (0, 0)), (0,))
        self.same(decisions_ahead(CHASE, LINE, (0, 1), group, (0, 1) * 1000), (0, 1))
        self.same(decisions_ahead(CHASE, LINE, (0, 1), (0,), ()), (0,))
        self.same(decisions_ahead(CHASE, LINE, (0, 1), (1, 2), ()), (1,))
        self.same(decisions_ahead(CHASE, LINE, (1, 1), group, ()), (1,))
        self.same(decisions_ahead(silent_program(2), LINE, (0, 1), group, (2, 2)), ())
        self.same(decisions_ahead(own_program(2), LINE, (0, 1), (2,), ()), (0, 1))

    def test_refusals(self):
        pools, groups = (InvalidPool, wrong_pools_for(2)), (InvalidGroup, wrong_groups(LINE))
        kinds = (PROGRAMS, pools, (InvalidInputs, wrong_inputs(2)), groups, (InvalidWord, wrong_words_in((0, 2))))
        for call in (decisions_ahead, is_open):
            self.check_refusals(call, (TELL, LINE, (0, 1), (0, 2), (0, 2, 0)), kinds)
        self.refused(InvalidWord, decisions_ahead, TELL, LINE, (0, 1), (0, 2), (1,))
        self.refused(InvalidWord, is_open, TELL, LINE, (0, 1), (0, 2), (0,) * 2001)
        self.assertIs(is_open(TELL, LINE, (0, 1), (0, 2), (0,) * 2000), False)

    def test_open_inputs(self):
        found = 0
        for program, pool, group in group_cases(22, 3):
            wanted = tuple(walk.inputs for walk in walks_of(program, rows_of(pool), group) if walk.ahead(walk.first) == (0, 1))
            self.same(open_inputs(program, pool, group), wanted)
            found += len(wanted)
        self.assertTrue(found > 100)
        kinds = (PROGRAMS, (InvalidPool, wrong_pools_for(2)), (InvalidGroup, wrong_groups(LINE)))
        self.check_refusals(open_inputs, (TELL, LINE, (0, 2)), kinds)


class DrivenFaults(Checks):
    def test_against_a_slow_walk(self):
        told = {}
        for program, pool, group in group_cases(23, 2):
            kinds = slow_kinds(program, rows_of(pool), group)
            if not kinds:
                self.refused(InvalidOperation, driven_fault, program, pool, group)
                told[None] = told.get(None, 0) + 1
                continue
            fault = driven_fault(program, pool, group)
            self.check_fault(program, pool, group, fault)
            told[fault[0]] = told.get(fault[0], 0) + 1
        self.assertEqual(set(told), {None, "unlike", "strange", "round"})
        self.assertTrue(min(told.values()) > 20, told)

    def check_fault(self, program, pool, group, fault):
        self.assertTrue(slow_is_fault(program, rows_of(pool), fault))
        self.assertIs(is_fault(program, pool, fault), True)
        self.assertTrue(all(index in group for webs in fault[2:] for index in webs))

    def test_each_obstacle_has_one(self):
        found = 0
        for program, pool in cases(24):
            for group in groups_of(len(pool)):
                if slow_closed(rows_of(pool), group) and not slow_common_roots(rows_of(pool), group):
                    self.check_fault(program, pool, group, driven_fault(program, pool, group))
                    found += 1
        self.assertTrue(found > 200)

    def test_by_hand(self):
        self.assertEqual(driven_fault(CHASE, LINE, (0, 1, 2))[0], "round")
        self.assertEqual(len(driven_fault(CHASE, LINE, (0, 1))[3]), 2)
        for group in ((0,), (1,), (2,)):
            self.refused(InvalidOperation, driven_fault, CHASE, LINE, group)
        self.assertEqual(driven_fault(TELL, LINE, (1,))[3], (1,))
        self.refused(InvalidOperation, driven_fault, TELL, LINE, (0, 2))

    def test_refusals(self):
        kinds = (PROGRAMS, (InvalidPool, wrong_pools_for(2)), (InvalidGroup, wrong_groups(LINE)))
        self.check_refusals(driven_fault, (TELL, LINE, (0, 1)), kinds)


def slow_has_open_word(walk, rounds):
    """Whether there is an open word of so many webs, by the open configurations behind each number of rounds."""
    level = {walk.first}
    for left in range(rounds, -1, -1):
        level = {configuration for configuration in level if walk.ahead(configuration) == (0, 1)}
        if left > 0:
            level = {later for configuration in level for later in walk.later[configuration]}
    return bool(level)


def slow_is_open_word(program, rows, group, inputs, word):
    walk = Walk(program, rows, inputs, group)
    return all(walk.ahead(configuration) == (0, 1) for configuration in slow_trail(program, rows, inputs, word))


class OpenWords(Checks):
    def test_against_a_slow_walk(self):
        told = {True: 0, False: 0}
        for program, pool, group in group_cases(25, 3):
            walks = walks_of(program, rows_of(pool), group)
            for rounds in (0, 1, 2, 3, 7):
                right = any(slow_has_open_word(walk, rounds) for walk in walks)
                told[right] += 1
                if not right:
                    self.refused(InvalidOperation, open_word, program, pool, group, rounds)
                    continue
                inputs, word = open_word(program, pool, group, rounds)
                self.assertEqual((len(word), set(word) <= set(group)), (rounds, True))
                self.assertTrue(slow_is_open_word(program, rows_of(pool), group, inputs, word))
                self.assertIs(is_open_word(program, pool, group, (inputs, word)), True)
        self.assertTrue(min(told.values()) > 50, told)

    def test_all_short_words_are_judged(self):
        told = {True: 0, False: 0}
        for program, pool, group in group_cases(26, 13):
            for word in [word for rounds in range(3) for word in itertools.product(group, repeat=rounds)]:
                for inputs in inputs_of(program.size):
                    right = slow_is_open_word(program, rows_of(pool), group, inputs, word)
                    told[right] += 1
                    self.assertIs(is_open_word(program, pool, group, (inputs, word)), right)
        self.assertTrue(min(told.values()) > 50, told)

    def test_long_words(self):
        for rounds in (0, 1, 10, 199, 200):
            inputs, word = open_word(CHASE, LINE, (0, 1, 2), rounds)
            self.assertEqual((len(word), len(set(inputs))), (rounds, 2))
            self.assertIs(is_open_word(CHASE, LINE, (0, 1, 2), (inputs, word)), True)
        for many in (201, 900, 1999, 2000):
            word = ((0, 1) * 1000)[:many]
            self.assertIs(is_open_word(CHASE, LINE, (0, 1), ((0, 1), word)), True)
            self.assertIs(is_open_word(CHASE, LINE, (0, 1), ((1, 1), word)), False)
            self.assertIs(is_open_word(CHASE, LINE, (0, 1), ((0, 1), word[:-1] + (1 - word[-1],))), False)
        self.assertIs(is_open_word(CHASE, LINE, (0, 1), ((0, 1), (0, 1) * 1000 + (0,))), False)

    def test_webs_behind_which_it_does_not_stay_open(self):
        fork = forking_program()
        self.same(open_word(fork, COUNTING, (0, 1), 6), ((0, 0), (1, 0, 0, 0, 0, 0)))
        self.same(open_word(fork, COUNTING, (0, 1), 200)[1], (1,) + (0,) * 199)
        self.refused(InvalidOperation, open_word, fork, COUNTING, (1,), 0)
        drive = Drive(fork, COUNTING, (0, 1), (0, 1))
        self.same((drive.choices, drive.keep(), drive.word, drive.ahead, drive.choices), ((0, 1), 1, (0,), (0, 1), ()))
        drive.undo()
        drive.go(1)
        self.same((drive.choices, drive.keep(), drive.word), ((0, 1), 10, (1,) + (0,) * 10))

    def test_values_near_open_words(self):
        value = ((0, 1), (0, 1, 0))
        told = set()
        for other in near(value):
            right = other in (((0, 1), (0, 1, 0)), ((1, 0), (0, 1, 0))) or other in \
                [(inputs, (0, 1, 0, 1, 0)[:many]) for inputs in ((0, 1), (1, 0)) for many in range(6)]
            right = right and "True" not in repr(other) and "False" not in repr(other) and isinstance(other, tuple)
            told.add(right)
            self.assertIs(is_open_word(CHASE, LINE, (0, 1, 2), other), right, other)
        self.assertEqual(told, {True, False})
        # An index of the pool that is not in the group.
        self.assertIs(is_open_word(CHASE, LINE, (0, 2), ((0, 1), (0, 1))), False)

    def test_refusals(self):
        kinds = (PROGRAMS, (InvalidPool, wrong_pools_for(2)), (InvalidGroup, wrong_groups(LINE)))
        self.check_refusals(open_word, (CHASE, LINE, (0, 1), 3), kinds + ((InvalidNumber, wrong_numbers(0, 200)),))
        self.check_refusals(is_open_word, (CHASE, LINE, (0, 1), None), kinds + (None,))
        self.refused_number(201, open_word, TELL, LINE, (0, 1), 201)
        self.refused(InvalidOperation, open_word, TELL, LINE, (0, 1), 200)


class Limits(Checks):
    def test_too_many_behind_other_errors_and_ahead_of_invalid_operation(self):
        for program in (WIDE, SOMETIMES):
            for call, more in ((open_inputs, ()), (driven_fault, ()), (open_word, (5,))):
                self.assertEqual(self.refused(TooMany, call, program, COUNTING, (0, 1), *more).limit, 20000)
                self.refused(InvalidGroup, call, program, COUNTING, (0, 2), *more)
                self.refused(InvalidPool, call, program, star_pool(3), (0, 1), *more)
            self.refused_number(201, open_word, program, COUNTING, (0, 1), 201)
            for call in (decisions_ahead, is_open):
                # With other inputs there are more.
                self.assertEqual(self.refused(TooMany, call, program, COUNTING, (0, 0), (0, 1), ()).limit, 20000)
                self.refused(InvalidWord, call, program, COUNTING, (0, 0), (0, 1), (2,))
                self.refused(InvalidInputs, call, program, COUNTING, (0, 2), (0, 1), ())
            self.assertEqual(self.refused(TooMany, Drive, program, COUNTING, (0, 1), (0, 0)).limit, 20000)
            self.refused(InvalidInputs, Drive, program, COUNTING, (0, 1), (0, 2))

    def test_webs_of_the_group_alone_count(self):
        for group in ((0,), (1,)):
            self.same(decisions_ahead(WIDE, COUNTING, (0, 0), group, group * 3), ())
            self.same(open_inputs(WIDE, COUNTING, group), ())
            self.assertEqual(driven_fault(WIDE, COUNTING, group)[0], "round")
            self.refused(InvalidOperation, open_word, WIDE, COUNTING, group, 0)
            self.same(Drive(WIDE, COUNTING, group, (1, 1)).ahead, ())

    def test_the_judge_has_no_such_limit(self):
        self.assertIs(is_open_word(WIDE, COUNTING, (0, 1), ((0, 1), (0, 1))), False)
        decided = Program(2, 302, ((0, 0), (150, 150)), {**WIDE.moves, (149, (149, 299)): 300, (299, (149, 299)): 301},
                          {300: 0, 301: 1})
        self.refused(TooMany, open_inputs, decided, COUNTING, (0, 1))
        for word in ((), (0,) * 149, (0, 1) * 149):
            self.assertIs(is_open_word(decided, COUNTING, (0, 1), ((0, 1), word)), True)
        self.assertIs(is_open_word(decided, COUNTING, (0, 1), ((0, 1), (0, 1) * 149 + (0,))), False)
        self.assertIs(is_open_word(decided, COUNTING, (0, 1), ((0, 1), (0, 1) * 149 + (1,))), False)
        self.assertIs(is_open_word(decided, COUNTING, (0,), ((0, 1), ())), False)


class Obstacles(Checks):
    def test_decisions_stay_open(self):
        """The second half of [12.2], where it says something."""
        found = 0
        for program, pool in cases(27):
            for group in groups_of(len(pool)):
                rows = rows_of(pool)
                if slow_closed(rows, group) and not slow_common_roots(rows, group) and fault_free(program, rows, group):
                    found += 1
                    self.check_open(program, pool, group)
        self.assertTrue(found > 0)

    def check_open(self, program, pool, group):
        opened = open_inputs(program, pool, group)
        self.assertTrue(opened)
        words = [()]
        for rounds in range(5):
            words = [word + (index,) for word in words for index in group if is_open(program, pool, opened[0], group, word + (index,))]
            self.assertEqual({word[:rounds] for word in words}, {word[:-1] for word in words})
            self.assertTrue(words)
        self.assertEqual(len(open_word(program, pool, group, 200)[1]), 200)
        drive = Drive(program, pool, group, opened[0])
        self.same((drive.keep(most=200), bool(drive), len(drive)), (200, True, 200))

    def test_groups_that_are_none(self):
        for pool in (LINE.part((0, 2)), star_pool(3), Pool((silent_web(1),))):
            program = made_program(pool, 1)
            group = tuple(range(len(pool)))
            self.refused(InvalidOperation, driven_fault, program, pool, group)
            self.refused(InvalidOperation, open_word, program, pool, group, 1)
        self.same(open_word(made_program(star_pool(3), 1), star_pool(3), (0, 1, 2), 0), ((0, 0, 1), ()))


def fault_free(program, rows, group):
    """Whether there is no fault by wrong decisions, and none whose ring has only one web."""
    for walk in walks_of(program, rows, group):
        if walk.kinds() & {"unlike", "strange"}:
            return False
        for place in range(len(group)):
            for configuration in walk.later:
                present, met = configuration, set()
                while present not in met:
                    met.add(present)
                    present = walk.later[present][place]
                if not walk.all_decided(present):
                    return False
    return True


if __name__ == "__main__":
    unittest.main()
