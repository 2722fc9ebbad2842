"""Runs [9.1], [9.2]."""

import itertools
import random
import unittest

from rootshared.base.pools import Pool, chain_pool, star_pool
from rootshared.base.webs import silent_web
from rootshared.errors import InvalidInputs, InvalidPool, InvalidProgram, InvalidWeb, InvalidWord, NothingToUndo
from rootshared.programs.programs import Program
from rootshared.programs.runs import Run, first_configuration, next_configuration
from rootshared.words.views import equal_views
from rootshared.words.words import known_inputs
from tests.helpers import (BOTH, LEFT, LINE, RIGHT, SIXTY_DIGITS, TELL, Checks, is_index_row, odd_values, repr_of,
                           wrong_inputs, wrong_numbers, wrong_pools_for, wrong_programs, wrong_rows, wrong_undos,
                           wrong_webs)
from tests.slow import drawn_pools, drawn_programs, rows_of, slow_trail, slow_words

PROGRAMS = (InvalidProgram, wrong_programs())
# House 0 tells its input; the others never decide.
SILENT = Program(3, 4, ((0, 1), (2, 2), (2, 2)), {(0, (0, None, None)): 3}, {3: 0, 1: 1})


def wrong_configurations(size, states):
    """Values that are no tuples with a state of each house."""
    near = [(0,) * (size - 1) + (states,), (0,) * (size - 1) + (-1,), (True,) * size, (0,) * (size + 1), (None,) * size]
    found = near + odd_values() + wrong_rows(states)
    return [value for value in found if not (is_index_row(value, states) and len(value) == size)]


def cases():
    """Programs with pools of as many houses."""
    for size in (1, 2, 3):
        if size == 1:
            found = [Pool((silent_web(1),))]
        else:
            found = list(drawn_pools(91, (size,), (2, 4), 1))
        for pool in found:
            for program in drawn_programs(92 + size, (size,), (2, 4), 3):
                yield program, pool


class Configurations(Checks):
    def test_first_configuration(self):
        for program, _ in cases():
            for inputs in itertools.product((0, 1), repeat=program.size):
                wanted = tuple(pair[given] for pair, given in zip(program.starts, inputs))
                self.same(first_configuration(program, inputs), wanted)
        self.same([first_configuration(TELL, inputs) for inputs in ((0, 0), (0, 1), (1, 0))], [(0, 2), (0, 2), (1, 2)])

    def test_next_configuration(self):
        for program, pool in cases():
            for configuration in itertools.product(range(program.states), repeat=program.size):
                for web in pool:
                    later = []
                    for house, state in enumerate(configuration):
                        heard = tuple(told if other in web.hears(house) else None for other, told in enumerate(configuration))
                        later.append(program.after(state, heard))
                    self.same(next_configuration(program, web, configuration), tuple(later))

    def test_all_houses_move_at_once(self):
        # Each house takes the state of the other one.
        swap = Program(2, 2, ((0, 1), (0, 1)), {(0, (0, 1)): 1, (1, (1, 0)): 0, (0, (1, 0)): 1, (1, (0, 1)): 0}, {})
        self.same(next_configuration(swap, BOTH, (0, 1)), (1, 0))
        self.same(next_configuration(swap, BOTH, (1, 0)), (0, 1))
        self.same(next_configuration(swap, RIGHT, (0, 1)), (0, 0))
        self.same(next_configuration(swap, LEFT, (0, 1)), (1, 1))
        self.same(next_configuration(swap, silent_web(2), (0, 1)), (0, 1))

    def test_webs_that_are_in_no_pool(self):
        self.same(next_configuration(TELL, silent_web(2), (0, 2)), (3, 2))
        self.same(next_configuration(TELL, RIGHT, (0, 2)), (3, 3))

    def test_refusals(self):
        for program in (TELL, SILENT, Program(1, 2, ((0, 1),), {}, {})):
            inputs = (InvalidInputs, wrong_inputs(program.size))
            self.check_refusals(first_configuration, (program, (0,) * program.size), (PROGRAMS, inputs))
            webs = (InvalidWeb, wrong_webs(program.size))
            states = (InvalidInputs, wrong_configurations(program.size, program.states))
            good = (program, silent_web(program.size), (0,) * program.size)
            self.check_refusals(next_configuration, good, (PROGRAMS, webs, states))


class Running(Checks):
    def check_state(self, run, program, pool, inputs, word):
        trail = slow_trail(program, rows_of(pool), inputs, word)
        decided = [[program.decisions.get(state) for state in row] for row in trail]
        since = []
        for house in range(program.size):
            rounds = [at for at, row in enumerate(decided) if row[house] is not None]
            since.append(rounds[0] if rounds else None)
        self.same((run.program, run.pool, run.inputs, run.word), (program, pool, inputs, word))
        self.same((run.configuration, run.decisions, run.since), (trail[-1], tuple(decided[-1]), tuple(since)))
        self.assertIs(bool(run), None in decided[-1])
        self.same(len(run), len(word))
        many = len([told for told in decided[-1] if told is not None])
        self.same(str(run), f"run of {program.size} houses: {len(word)} rounds, {many} decided")

    def test_rounds_one_by_one_and_taken_back(self):
        chance = random.Random(93)
        for program, pool in cases():
            inputs = tuple(chance.randrange(2) for _ in range(program.size))
            run, word = Run(program, pool, inputs), ()
            self.check_state(run, program, pool, inputs, word)
            for _ in range(25):
                word = self.change(run, program, pool, inputs, word, chance)
                self.check_state(run, program, pool, inputs, word)

    def change(self, run, program, pool, inputs, word, chance):
        """The word of the run behind a change."""
        many, index = chance.randrange(len(word) + 1), chance.randrange(len(pool))
        kind = chance.randrange(6)
        if kind == 0:
            self.same(run.undo(many=many), word[len(word) - many:][::-1])
            return word[:len(word) - many]
        if kind == 1:
            more = tuple(chance.randrange(len(pool)) for _ in range(chance.randrange(4)))
            wanted = slow_trail(program, rows_of(pool), inputs, word + more)[len(word) + 1:]
            self.same(run.follow(more), tuple(wanted))
            return word + more
        self.same(run.go(index), slow_trail(program, rows_of(pool), inputs, (*word, index))[-1])
        return (*word, index)

    def test_all_inputs_and_words_of_three_rounds(self):
        for program, pool in list(cases())[::3]:
            for inputs in itertools.product((0, 1), repeat=program.size):
                for word in slow_words(len(pool), 3):
                    run = Run(program, pool, inputs)
                    self.same(run.follow(word), tuple(slow_trail(program, rows_of(pool), inputs, word)[1:]))
                    self.check_state(run, program, pool, inputs, word)

    def test_houses_that_never_decide(self):
        run = Run(SILENT, chain_pool(3), (0, 1, 0))
        self.same((run.decisions, run.since, bool(run)), ((None, None, None), (None, None, None), True))
        run.go(0)
        self.same((run.decisions, run.since, bool(run)), ((0, None, None), (1, None, None), True))
        run.follow((0, 1, 2) * 5)
        self.same((run.decisions, run.since, len(run)), ((0, None, None), (1, None, None), 16))
        self.same(str(run), "run of 3 houses: 16 rounds, 1 decided")

    def test_houses_that_decide_at_the_beginning(self):
        run = Run(SILENT, chain_pool(3), (1, 0, 0))
        self.same((run.decisions, run.since), ((1, None, None), (0, None, None)))
        one = Run(Program(1, 1, ((0, 0),), {}, {0: 1}), Pool((silent_web(1),)), (0,))
        self.same((one.decisions, one.since, bool(one), str(one)), ((1,), (0,), False, "run of 1 houses: 0 rounds, 1 decided"))

    def test_since_is_taken_back(self):
        run = Run(TELL, LINE, (1, 0))
        run.follow((1, 1, 0))
        self.same(run.since, (1, 3))
        self.same(run.undo(), (0,))
        self.same(run.since, (1, None))
        run.follow((1, 0, 0))
        self.same(run.since, (1, 4))
        run.undo(many=5)
        self.same((run.since, run.word), ((None, None), ()))

    def test_since_keeps_the_first_round_in_other_states_with_the_decision(self):
        program = Program(1, 3, ((0, 0),), {(0, (0,)): 1, (1, (1,)): 2, (2, (2,)): 1}, {1: 0, 2: 0})
        run = Run(program, Pool((silent_web(1),)), (0,))
        self.same(run.follow((0,) * 4), ((1,), (2,), (1,), (2,)))
        self.same((run.since, run.decisions), ((1,), (0,)))

    def test_words_of_many_rounds(self):
        run = Run(TELL, LINE, (0, 1))
        self.same(len(run.follow((1,) * 3000)), 3000)
        self.same((len(run), run.word, run.configuration, run.since), (3000, (1,) * 3000, (3, 2), (1, None)))
        self.same(run.undo(many=2999), (1,) * 2999)
        self.same(run.follow(()), ())
        self.same(run.word, (1,))


class Refused(Checks):
    def test_making(self):
        for program, pool in ((TELL, LINE), (SILENT, star_pool(3)), (Program(1, 2, ((0, 1),), {}, {}), Pool((silent_web(1),)))):
            kinds = (PROGRAMS, (InvalidPool, wrong_pools_for(program.size)), (InvalidInputs, wrong_inputs(program.size)))
            self.check_refusals(Run, (program, pool, (0,) * program.size), kinds)
        self.refused(InvalidPool, Run, TELL, star_pool(3), (0, 0))
        self.refused(InvalidPool, Run, TELL, star_pool(3), (0, 0, 0))
        self.refused(InvalidInputs, Run, TELL, LINE, (0, 0, 0))

    def test_go_and_follow(self):
        run = Run(TELL, LINE, (1, 0))
        run.go(1)
        before = repr_of(run)
        for value in wrong_numbers(0, 2):
            self.refused_number(value, run.go, value)
        # A word that is none has no effect, though it begins with webs.
        for value in wrong_rows(3) + [(0, 0, 3), (0, 1, True), (2, 2, -1), [0, 0], (0,) * 50 + (None,)]:
            self.refused(InvalidWord, run.follow, value)
            self.assertEqual(repr_of(run), before)

    def test_undo(self):
        run = Run(TELL, LINE, (1, 0))
        run.follow((1, 0))
        for many in (3, 4, SIXTY_DIGITS):
            self.assertEqual(self.refused(NothingToUndo, lambda: run.undo(many=many)).many, many)
        for value in wrong_undos():
            self.refused_number(value, lambda many: run.undo(many=many), value)
        self.same((run.word, run.configuration), ((1, 0), (4, 4)))
        self.same((run.undo(many=0), run.undo(), run.undo()), ((), (0,), (1,)))
        self.assertEqual(self.refused(NothingToUndo, run.undo).many, 1)
        self.same((run.undo(many=0), run.configuration), ((), (1, 2)))
        with self.assertRaises(TypeError):
            run.undo(0)


class RunsAsValues(Checks):
    def test_twins_go_on_by_themselves(self):
        run = Run(TELL, LINE, (1, 0))
        run.go(1)
        twin = run.twin()
        self.assertIs(run == twin, True)
        self.same((twin.since, twin.configuration), (run.since, run.configuration))
        twin.go(0)
        self.same((run.word, twin.word, run.since, twin.since), ((1,), (1, 0), (1, None), (1, 2)))
        self.assertIs(run == twin, False)
        self.same(twin.undo(many=2), (0, 1))
        self.same((run.word, twin.word), ((1,), ()))
        run.follow((1, 1))
        self.same((run.word, twin.word, twin.configuration), ((1, 1, 1), (), (1, 2)))
        self.refused(NothingToUndo, twin.undo)

    def test_equal_by_programs_pools_inputs_and_words(self):
        one = Run(TELL, LINE, (1, 0))
        self.assertIs(one == Run(TELL.opposite().opposite(), Pool(LINE.webs), (1, 0)), True)
        for other in (Run(TELL.opposite(), LINE, (1, 0)), Run(TELL, LINE.part((0, 1)), (1, 0)), Run(TELL, LINE, (1, 1))):
            self.assertIs(one == other, False)
            self.assertIs(one != other, True)
        other = one.twin()
        other.go(0)
        self.assertIs(one == other, False)
        one.go(2)
        self.assertIs(one == other, False)
        self.same(one.configuration, other.configuration)
        one.undo()
        one.go(0)
        self.assertIs(one == other, True)
        self.assertIs(one != other, False)

    def test_equal_accepts_every_value(self):
        run = Run(TELL, LINE, (0, 0))
        for value in odd_values() + [LINE, TELL, (0, 0), str(run), 0, True]:
            self.assertIs(run == value, False)
            self.assertIs(value == run, False)
            self.assertIs(run != value, True)

    def test_no_iteration(self):
        for call in (iter, list, tuple, sorted):
            with self.assertRaises(TypeError):
                call(Run(TELL, LINE, (0, 0)))


class Promises(Checks):
    def test_a_house_does_what_its_view_and_the_inputs_that_it_knows_tell(self):
        found = sum(self.check_case(program, pool) for program, pool in cases())
        self.assertTrue(found > 100)

    def check_case(self, program, pool):
        """How often unlike inputs and unlike words left a house in the same state."""
        found = 0
        words, givens = slow_words(len(pool), 2), list(itertools.product((0, 1), repeat=program.size))
        ends = {(inputs, word): end_of(program, pool, inputs, word) for inputs in givens for word in words}
        for one, other in itertools.product(words, repeat=2):
            known = known_inputs(pool, one)
            for house in equal_views(pool, one, other):
                for first, second in itertools.product(givens, repeat=2):
                    if all(first[told] == second[told] for told in known[house]):
                        found += one != other and first != second
                        self.assertEqual(ends[first, one][house], ends[second, other][house])
        return found


def end_of(program, pool, inputs, word):
    """The configuration behind the word."""
    run = Run(program, pool, inputs)
    run.follow(word)
    return run.configuration


if __name__ == "__main__":
    unittest.main()
