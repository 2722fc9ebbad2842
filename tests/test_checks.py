"""Right programs [10.1], [10.2]."""

import itertools
import random
import unittest
import unittest.mock

from rootshared.base.pools import Pool, muted_pool, star_pool
from rootshared.base.webs import silent_web
from rootshared.errors import InvalidInputs, InvalidOperation, InvalidPool, InvalidProgram, TooMany
from rootshared.groups.groups import can_agree
from rootshared.make.makers import herald_program, made_program
from rootshared.programs import checks
from rootshared.programs.checks import (configurations, found_fault, is_fault, is_right, is_right_paper, right_paper,
                                        slowest)
from rootshared.programs.programs import Program
from tests.helpers import BOTH, LEFT, LINE, RIGHT, TELL, Checks, wrong_inputs, wrong_pools_for, wrong_programs
from tests.slow import groups_of, near, rows_of, slow_next
from tests.slow_programs import (COUNTING, Walk, cases, counting_program, group_of, inputs_of, own_program,
                                 silent_program, slow_is_fault, slow_kinds, slow_slowest, telling_program, walks_of)

PROGRAMS = (InvalidProgram, wrong_programs())
PAIR = LINE.part((0, 2))
# 20000 configurations, and one more from the last one of them.
FULL = counting_program(125, 160)
OVER = Program(2, 286, FULL.starts, {**FULL.moves, (124, (124, 284)): 285}, {})
# More than 20000 configurations, but only with the inputs (1, 1).
SOMETIMES = counting_program(150, 150, ((149, 0), (299, 150)))
WIDE = counting_program(150, 150)


def line_program(length, later, decisions):
    """A program for one house that counts from 0, one state a round, and goes on from the last state to `later`."""
    moves = {(state, (state,)): state + 1 for state in range(length - 1)}
    moves[(length - 1, (length - 1,))] = later
    return Program(1, length, ((0, 0),), moves, decisions)


def clock_program(first, second, more, decisions):
    """A program for two houses that count round and round, with more states, and more moves that lead elsewhere."""
    moves = {}
    for one, other in itertools.product(range(first), range(second)):
        moves[(one, (one, None))] = (one + 1) % first
        moves[(one, (one, first + other))] = (one + 1) % first
        moves[(first + other, (None, first + other))] = first + (other + 1) % second
        moves[(first + other, (one, first + other))] = first + (other + 1) % second
    moves.update(more)
    return Program(2, first + second + 2, ((0, 0), (first, first)), moves, decisions)


class Reached(Checks):
    def test_configurations(self):
        for program, pool in cases(1):
            for inputs in inputs_of(program.size):
                walk = Walk(program, rows_of(pool), inputs, group_of(pool))
                self.same(configurations(program, pool, inputs), tuple(sorted(walk.later)))

    def test_refusals(self):
        for program, pool in ((TELL, LINE), (telling_program(3, 0), star_pool(3))):
            pools, inputs = (InvalidPool, wrong_pools_for(program.size)), (InvalidInputs, wrong_inputs(program.size))
            self.check_refusals(configurations, (program, pool, (0,) * program.size), (PROGRAMS, pools, inputs))

    def test_20000_and_one_more(self):
        found = configurations(FULL, COUNTING, (0, 1))
        self.same((len(found), found[0], found[-1]), (20000, (0, 125), (124, 284)))
        self.assertEqual(self.refused(TooMany, configurations, OVER, COUNTING, (0, 1)).limit, 20000)
        # Fewer webs come to fewer.
        self.same(len(configurations(OVER, COUNTING.part((0,)), (0, 1))), 125)

    def test_too_many_with_other_inputs_are_let(self):
        self.same(configurations(SOMETIMES, COUNTING, (0, 0)), ((149, 299),))
        self.same(len(configurations(SOMETIMES, COUNTING, (0, 1))), 150)
        self.refused(TooMany, configurations, SOMETIMES, COUNTING, (1, 1))

    def test_other_errors_come_ahead(self):
        self.refused(InvalidProgram, configurations, None, LINE, (1, 1))
        self.refused(InvalidPool, configurations, WIDE, star_pool(3), (1, 1))
        self.refused(InvalidInputs, configurations, WIDE, COUNTING, (1, 2))


class Right(Checks):
    def test_against_a_slow_walk(self):
        told = {}
        for program, pool in cases(2):
            kinds = slow_kinds(program, rows_of(pool), group_of(pool))
            for kind in kinds or {"right"}:
                told[kind] = told.get(kind, 0) + 1
            self.assertIs(is_right(program, pool), not kinds)
            self.check_fault(program, pool, kinds)
            self.check_paper(program, pool, kinds)
        self.assertEqual(set(told), {"unlike", "strange", "round", "right"})
        self.assertTrue(min(told.values()) >= 20, told)

    def check_fault(self, program, pool, kinds):
        fault = found_fault(program, pool)
        if not kinds:
            self.assertIsNone(fault)
            return
        self.assertIn(fault[0], kinds)
        self.assertTrue(slow_is_fault(program, rows_of(pool), fault))
        self.assertIs(is_fault(program, pool, fault), True)

    def check_paper(self, program, pool, kinds):
        if kinds:
            self.refused(InvalidOperation, right_paper, program, pool)
            self.refused(InvalidOperation, slowest, program, pool)
            return
        paper = right_paper(program, pool)
        self.same(list(paper), inputs_of(program.size))
        for row in paper.values():
            self.assertEqual(list(row), sorted(row))
            self.assertTrue(all(0 <= rank < 10 ** 9 for rank in row.values()))
        self.assertIs(is_right_paper(program, pool, paper), True)
        self.same(slowest(program, pool), slow_slowest(program, rows_of(pool), group_of(pool)))

    def test_refusals(self):
        kinds = (PROGRAMS, (InvalidPool, wrong_pools_for(2)))
        for call in (is_right, found_fault, right_paper, slowest):
            self.check_refusals(call, (TELL, PAIR), kinds)
        for call in (is_fault, is_right_paper):
            self.check_refusals(call, (TELL, PAIR, None), kinds + (None,))

    def test_decisions_ahead_of_all_rounds(self):
        one = Pool((silent_web(1),))
        self.same((is_right(own_program(1), one), slowest(own_program(1), one)), (True, 0))
        self.same(right_paper(own_program(1), one), {(0,): {(0,): 0}, (1,): {(1,): 0}})
        self.assertEqual(found_fault(own_program(2), LINE)[0], "unlike")
        self.same(found_fault(Program(1, 2, ((0, 1),), {}, {0: 1, 1: 0}), one), ("strange", (0,), ()))

    def test_a_house_that_stays_undecided_is_a_fault(self):
        fault = found_fault(silent_program(2), PAIR)
        self.assertEqual((fault[0], fault[2], len(fault[3])), ("round", (), 1))

    def test_right_for_parts(self):
        for program, pool in cases(3):
            if is_right(program, pool):
                for group in groups_of(len(pool)):
                    self.assertIs(is_right(program, pool.part(group)), True)
                    self.assertTrue(slowest(program, pool.part(group)) <= slowest(program, pool))

    def test_only_if_the_houses_can_agree(self):
        for program, pool in cases(4):
            self.assertTrue(can_agree(pool) or not is_right(program, pool))


class Limits(Checks):
    def test_too_many_behind_other_errors_and_ahead_of_invalid_operation(self):
        for program in (OVER, SOMETIMES, WIDE):
            for call in (is_right, found_fault, right_paper, slowest):
                self.assertEqual(self.refused(TooMany, call, program, COUNTING).limit, 20000)
                self.refused(InvalidPool, call, program, star_pool(3))
        for call in (right_paper, slowest):
            self.refused(InvalidOperation, call, FULL, COUNTING)
            self.refused(InvalidOperation, call, WIDE, COUNTING.part((1,)))
        self.assertIs(is_right(FULL, COUNTING), False)
        fault = found_fault(FULL, COUNTING)
        self.assertIs(is_fault(FULL, COUNTING, fault), True)

    def test_judges_have_no_such_limit(self):
        for word in ((), (0,) * 149, (0, 1) * 149):
            self.assertIs(is_fault(WIDE, COUNTING, ("round", (1, 1), word + (0,) * 149 + (1,) * 149, (0, 1))), True)
            self.assertIs(is_fault(WIDE, COUNTING, ("round", (1, 1), word[:4], (0,))), False)
        self.assertIs(is_right_paper(WIDE, COUNTING, {}), False)

    def test_papers_with_more_keys_are_judged(self):
        program, paper = waiting_program(28), waiting_paper(28)
        self.assertTrue(len(paper[(0, 0, 0)]) > 24000 and len(paper[(0, 1, 0)]) > 48000)
        self.assertIs(is_right_paper(program, star_pool(3), paper), True)
        self.refused(TooMany, is_right, program, star_pool(3))
        self.refused(TooMany, right_paper, program, star_pool(3))
        del paper[(0, 1, 0)][(4, 6, 8)]
        self.assertIs(is_right_paper(program, star_pool(3), paper), False)

    def test_programs_that_come_to_nearly_as_many(self):
        program = waiting_program(20)
        self.assertIs(is_right(program, star_pool(3)), True)
        self.assertIs(is_right_paper(program, star_pool(3), waiting_paper(20)), True)
        self.same(slowest(program, star_pool(3)), 61)
        paper = right_paper(program, star_pool(3))
        self.assertEqual(max(len(row) for row in paper.values()), 18523)
        self.assertIs(is_right_paper(program, star_pool(3), paper), True)

    def test_words_and_rings_of_900_webs_are_found(self):
        # House 1 comes to a state of its own if it hears the last states of both, behind 899 rounds and all 899 more.
        clock = clock_program(29, 31, {(59, (28, 59)): 60}, {60: 1})
        one = LINE.part((2,))
        fault = found_fault(clock, one)
        self.assertEqual((fault[0], len(fault[2])), ("strange", 899))
        self.assertIs(is_fault(clock, one, fault), True)
        ring = clock_program(29, 31, {}, {})
        fault = found_fault(ring, one)
        self.assertEqual((fault[0], len(fault[2]), len(fault[3])), ("round", 0, 899))
        self.assertIs(is_fault(ring, one, fault), True)

    def test_a_short_ring_is_found_behind_long_ones(self):
        # The clock goes round in 1147 rounds; by web 1 it comes to a configuration that stays, behind some rounds.
        long = found_fault(clock_program(31, 37, {}, {}), Pool((RIGHT, BOTH)))
        self.assertEqual((long[0], len(long[3])), ("round", 1147))
        for rounds in (0, 1, 36, 500, 899):
            one, other = rounds % 31, 31 + rounds % 37
            clock = clock_program(31, 37, {(one, (one, other)): 68}, {})
            fault = found_fault(clock, Pool((RIGHT, BOTH)))
            self.assertEqual((fault[0], len(fault[2]), len(fault[3])), ("round", rounds + 1, 1))
            self.assertIs(is_fault(clock, Pool((RIGHT, BOTH)), fault), True)
        # A ring of 900 webs is short enough, one of 901 is not.
        for first, second, many in ((25, 36, 900), (17, 53, 1)):
            clock = clock_program(first, second, {(3, (3, first + 3)): first + second}, {})
            self.assertEqual(len(found_fault(clock, Pool((RIGHT, BOTH)))[3]), many)

    def test_a_fault_within_the_limit_is_found_if_there_is_one(self):
        # With low limits in the place of 900, as many programs have short faults beside longer ones.
        found = {True: 0, False: 0}
        for program, pool in list(cases(9))[::2]:
            least = least_limit(program, rows_of(pool), group_of(pool))
            for most in range(5 if least is not None else 0):
                with unittest.mock.patch.object(checks, "MOST_FOUND", most):
                    fault = found_fault(program, pool)
                self.assertIs(is_fault(program, pool, fault), True)
                self.assertIs(max(len(webs) for webs in fault[2:]) <= most, least <= most)
                found[least <= most] += 1
        self.assertTrue(min(found.values()) > 30, found)

    def test_faults_that_are_all_longer_are_faults(self):
        clock = clock_program(31, 37, {(8, (8, 32)): 68}, {68: 1})
        fault = found_fault(clock, Pool((RIGHT, BOTH)))
        self.assertIs(is_fault(clock, Pool((RIGHT, BOTH)), fault), True)
        self.assertIs(is_right(clock, Pool((RIGHT, BOTH))), False)

    def test_long_lines(self):
        one = Pool((silent_web(1),))
        for length in (2, 10, 400):
            ring = line_program(length, 0, {})
            self.same(found_fault(ring, one), ("round", (0,), (), (0,) * length))
            wrong = line_program(length, length - 1, {length - 1: 1})
            self.same(found_fault(wrong, one), ("strange", (0,), (0,) * (length - 1)))
            last = line_program(length, length - 1, {})
            self.same(found_fault(last, one), ("round", (0,), (0,) * (length - 1), (0,)))
            back = line_program(length, length // 2, {})
            self.same(found_fault(back, one), ("round", (0,), (0,) * (length // 2), (0,) * (length - length // 2)))


def least_limit(program, rows, group):
    """The least number so that there is a fault whose word and ring have no more webs, or None without faults."""
    found = []
    for walk in walks_of(program, rows, group):
        for configuration, rounds in distances(walk, walk.first).items():
            made = walk.made(configuration)
            if len(made) == 2 or not made <= set(walk.inputs):
                found.append(rounds)
            if not walk.all_decided(configuration) and walk.returns(configuration):
                back = min(distances(walk, later).get(configuration, 10 ** 6) for later in walk.later[configuration])
                found.append(max(rounds, back + 1))
    return min(found, default=None)


def distances(walk, start):
    """A dict from the configurations that are reached from the start to the least number of rounds."""
    found, level, rounds = {}, {start}, 0
    while level:
        found.update({configuration: rounds for configuration in level})
        level = {later for configuration in level for later in walk.later[configuration]} - set(found)
        rounds += 1
    return found


def waiting_program(many):
    """A program for three houses and stars: all know the input of the first center, and wait for many rounds as centers.

    Who has waited so long decides, and those that hear of it do. States 0 and 1 are the inputs, 2 and 3 decisions.
    """
    starts = 4
    moves = {}
    for center in range(3):
        for given in (0, 1):
            moves[(given, alone(center, given))] = starts + given
            for at in range(many):
                state = starts + 2 * at + given
                moves[(state, alone(center, state))] = state + 2 if at + 1 < many else 2 + given
            for house in [house for house in range(3) if house != center]:
                for other in (0, 1):
                    moves[(other, beside(center, given, house, other))] = starts + given
                for at in range(many):
                    state = starts + 2 * at + given
                    moves[(state, beside(center, 2 + given, house, state))] = 2 + given
    return Program(3, starts + 2 * many, ((0, 1),) * 3, moves, {2: 0, 3: 1})


def alone(house, state):
    return tuple(state if other == house else None for other in range(3))


def beside(center, told, house, state):
    return tuple(told if other == center else state if other == house else None for other in range(3))


def waiting_paper(many):
    """A paper for the program: how many rounds are left in which somebody waits."""
    paper = {}
    for inputs in inputs_of(3):
        row = {inputs: 3 * many + 1}
        for given in sorted(set(inputs)):
            left = {2 + given: 0}
            left.update({4 + 2 * at + given: many - at for at in range(many)})
            row.update({key: sum(left[state] for state in key) for key in itertools.product(left, repeat=3)})
        paper[inputs] = row
    return paper


class Judging(Checks):
    def test_faults_near_right_ones(self):
        told = {True: 0, False: 0}
        for program, pool in list(cases(5))[::9]:
            fault = found_fault(program, pool)
            if fault is not None:
                for value in near_faults(fault, pool):
                    self.check_value(program, pool, value, told)
        self.assertTrue(min(told.values()) > 100, told)

    def check_value(self, program, pool, value, told):
        right = has_fault_form(value, program.size, len(pool)) and slow_is_fault(program, rows_of(pool), value)
        self.assertIs(is_fault(program, pool, value), right, value)
        told[right] += 1

    def test_long_words_and_rings(self):
        one = Pool((silent_web(1),))
        last = line_program(2, 1, {})
        for many in (1, 900, 901, 1999, 2000):
            self.assertIs(is_fault(last, one, ("round", (0,), (0,) * many, (0,))), True)
            self.assertIs(is_fault(last, one, ("round", (1,), (0,), (0,) * many)), True)
        for many in (2001, 2002, 4000):
            self.assertIs(is_fault(last, one, ("round", (0,), (0,) * many, (0,))), False)
            self.assertIs(is_fault(last, one, ("round", (0,), (0,), (0,) * many)), False)
        self.assertIs(is_fault(last, one, ("round", (0,), (0,) * 2000, (0,) * 2000)), True)
        wrong = line_program(2, 1, {1: 1})
        self.assertIs(is_fault(wrong, one, ("strange", (0,), (0,) * 2000)), True)
        self.assertIs(is_fault(wrong, one, ("strange", (1,), (0,) * 2000)), False)
        self.assertIs(is_fault(wrong, one, ("strange", (0,), (0,) * 2001)), False)

    def test_all_short_faults(self):
        found = 0
        for program, pool in list(cases(6))[::11]:
            words = [word for rounds in range(3) for word in itertools.product(range(len(pool)), repeat=rounds)]
            for inputs, word in itertools.product(inputs_of(program.size), words):
                for kind in ("unlike", "strange"):
                    found += self.check_short(program, pool, (kind, inputs, word))
                for ring in words:
                    found += self.check_short(program, pool, ("round", inputs, word, ring))
        self.assertTrue(found > 100)

    def check_short(self, program, pool, fault):
        right = slow_is_fault(program, rows_of(pool), fault)
        self.assertIs(is_fault(program, pool, fault), right, fault)
        return right

    def test_papers_near_right_ones(self):
        told = {True: 0, False: 0}
        chance = random.Random(7)
        for program, pool in right_cases():
            paper = right_paper(program, pool)
            for value in near_papers(program, paper, chance):
                right = slow_is_paper(program, rows_of(pool), value)
                self.assertIs(is_right_paper(program, pool, value), right, value)
                told[right] += 1
        self.assertTrue(min(told.values()) > 100, told)

    def test_papers_of_other_pools(self):
        told = set()
        for program, pool in right_cases():
            paper = right_paper(program, pool)
            for group in groups_of(len(pool)):
                self.assertIs(is_right_paper(program, pool.part(group), paper), True)
            for other in (LINE, Pool((RIGHT, LEFT)), star_pool(3), muted_pool(3)):
                if other.size == pool.size:
                    right = slow_is_paper(program, rows_of(other), paper)
                    told.add(right)
                    self.assertIs(is_right_paper(program, other, paper), right)
        self.assertEqual(told, {True, False})

    def test_keys_that_are_not_reached(self):
        paper = right_paper(TELL, PAIR)
        # With these inputs all decide for 0.
        self.same(paper[(0, 1)], {(0, 2): 1, (3, 3): 0})
        for key, rank in (((4, 4), 10 ** 60 - 1), ((4, 4), 0), ((1, 2), 10 ** 60 - 1)):
            paper[(0, 1)][key] = rank
            self.assertIs(is_right_paper(TELL, PAIR, paper), True)
        for key, rank in (((3, 4), 5), ((2, 2), 5), ((4, 4), 10 ** 60), ((4, 4), -1), ((5, 5), 0), ((0, 1), 9)):
            paper[(0, 1)] = {(0, 2): 1, (3, 3): 0, key: rank}
            self.assertIs(is_right_paper(TELL, PAIR, paper), False, key)
        paper[(0, 1)] = {(0, 2): 1, (3, 3): 0}
        # No input is 1.
        paper[(0, 0)][(4, 4)] = 0
        self.assertIs(is_right_paper(TELL, PAIR, paper), False)

    def test_integers_that_do_not_fall(self):
        paper = right_paper(TELL, PAIR)
        for before, after, right in ((1, 0, True), (0, 0, False), (5, 4, True), (5, 5, False), (4, 5, False)):
            paper[(1, 0)] = {(1, 2): before, (4, 4): after}
            self.assertIs(is_right_paper(TELL, PAIR, paper), right)

    def test_nothing_is_shared(self):
        paper = right_paper(TELL, PAIR)
        paper[(0, 0)].clear()
        del paper[(1, 1)]
        self.same(list(right_paper(TELL, PAIR)), inputs_of(2))
        self.assertIs(is_right_paper(TELL, PAIR, right_paper(TELL, PAIR)), True)


def right_cases():
    """Pairs of a program and a pool for which it is right."""
    found = [(program, pool) for program, pool in list(cases(8))[::3] if is_right(program, pool)][::2]
    return found + [(TELL, PAIR), (herald_program(star_pool(3).part((0,)), 0), star_pool(3).part((0,)))]


def near_faults(fault, pool):
    yield fault
    for kind in ("unlike", "strange", "round", "", "Round", None, True, 0, ("round",), ["unlike"]):
        yield (kind,) + fault[1:]
        yield (kind,) + fault[1:3]
        yield (kind,) + fault[1:3] + ((0,),)
    for inputs in inputs_of(len(fault[1])) + list(near(fault[1])):
        yield fault[:1] + (inputs,) + fault[2:]
    for word in near(fault[2]):
        yield fault[:2] + (word,) + fault[3:]
    for index in range(-1, len(pool) + 1):
        yield fault[:2] + (fault[2] + (index,),) + fault[3:]
        yield fault[:2] + ((index,) + fault[2],) + fault[3:]
        yield fault[:3] + ((index,),)
        yield fault[:2] + (fault[2][1:],) + fault[3:]
    for more in ((), (0,), None, ()):
        yield fault + (more,)
    for ring in near(fault[3] if len(fault) == 4 else (0,)):
        yield fault[:3] + (ring,)
    yield from (None, True, 0, "round", [], list(fault), fault[:1], fault[:2], fault[1:], (), {}, fault[::-1])


def has_fault_form(value, size, many):
    """Whether the value has the form of a fault."""
    if not isinstance(value, tuple) or len(value) not in (3, 4) or not isinstance(value[0], str):
        return False
    if value[0] not in (("unlike", "strange") if len(value) == 3 else ("round",)):
        return False
    if not is_row(value[1], 2) or len(value[1]) != size:
        return False
    return all(is_row(webs, many) and len(webs) <= 2000 for webs in value[2:])


def is_row(value, many):
    return isinstance(value, tuple) and all(index.__class__ is int and 0 <= index < many for index in value)


def slow_is_paper(program, rows, value):
    """Whether the value is a paper that the program is right, by the words of the document."""
    if not isinstance(value, dict) or sorted(map(repr, value)) != sorted(map(repr, inputs_of(program.size))):
        return False
    parts = (program.starts, program.moves)
    for inputs, row in value.items():
        if not isinstance(row, dict):
            return False
        for key, rank in row.items():
            if not is_row(key, program.states) or len(key) != program.size:
                return False
            if rank.__class__ is not int or not 0 <= rank < 10 ** 60:
                return False
        walk = Walk(program, rows, inputs, range(len(rows)))
        if walk.first not in row:
            return False
        for key in row:
            later = [slow_next(parts, rows, index, key) for index in range(len(rows))]
            if len(walk.made(key)) == 2 or not walk.made(key) <= set(inputs) or not all(other in row for other in later):
                return False
            if not walk.all_decided(key) and not all(row[other] < row[key] for other in later):
                return False
    return True


def near_papers(program, paper, chance):
    """Papers near a right one, right ones among them."""
    yield from (paper, None, True, [], (), {}, list(paper.items()), tuple(paper), "paper", {0: 0})
    yield {inputs: {key: rank * 7 + 5 for key, rank in row.items()} for inputs, row in paper.items()}
    yield dict(list(paper.items())[::-1])
    for inputs, row in list(paper.items())[:4]:
        for changed in near_rows(program, row, chance):
            yield {**paper, inputs: changed}
        less = {other: kept for other, kept in paper.items() if other != inputs}
        yield less
        for key in (None, True, inputs + (0,), inputs[1:], list(inputs)[0], (2,) * len(inputs), (True,) * len(inputs)):
            yield {**paper, key: row}
            yield {**less, key: row}


def near_rows(program, row, chance):
    yield from (None, True, [], list(row), tuple(row.items()), {})
    for key in list(row)[:3] + list(row)[-2:]:
        yield {other: rank for other, rank in row.items() if other != key}
        for rank in (-1, 0, 1, 2, 3, 50, 10 ** 60 - 1, 10 ** 60, True, False, None, "1", (0,), [1]):
            yield {**row, key: rank}
        for at in range(program.size):
            for state in (-1, 0, 1, program.states - 1, program.states, True, None, "0"):
                yield {**row, key[:at] + (state,) + key[at + 1:]: chance.randrange(4)}
        yield {**row, key + (0,): 0}
        yield {**row, key[1:]: 0}
    for key in (None, 0, "key", (), ((),)):
        yield {**row, key: 0}


if __name__ == "__main__":
    unittest.main()
