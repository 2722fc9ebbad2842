"""Programs [8.1]."""

import itertools
import random
import unittest

from rootshared.errors import InvalidNumber, InvalidOperation, InvalidProgram, TooMany
from rootshared.programs.programs import MAX_MOVES, MAX_STATES, Program, is_program
from tests.helpers import (HUNDRED_DIGITS, LINE, SIXTY_DIGITS, TELL, Checks, odd_values, repr_of, wrong_numbers,
                           wrong_orders)
from tests.slow import drawn_parts, drawn_programs, is_pure, other_kinds

# Each program with these parts is one.
PARTS = (2, 5, TELL.starts, TELL.moves, TELL.decisions)
FULL_MOVES = {(state, (state, other)): other for state in range(10) for other in range(400)}
FULL = Program(2, 400, ((0, 1), (2, 3)), FULL_MOVES, {})


def place(move):
    """What moves ascend by, told in another way than the program does it."""
    return move[0], [(told is None, told or 0) for told in move[1]]


def is_state(value, states):
    return isinstance(value, int) and not isinstance(value, bool) and 0 <= value < states


def is_heard(size, states, state, value):
    """Whether a house in the state can hear this."""
    if not isinstance(value, tuple) or len(value) != size:
        return False
    return all(told is None or is_state(told, states) for told in value) and state in value


def judged(size, states, value):
    """Whether the value has the parts of a program, by the words of the document."""
    if not isinstance(value, tuple) or len(value) != 3 or not is_pure(value[0]):
        return False
    starts, moves, decisions = value
    if not isinstance(starts, tuple) or len(starts) != size or not isinstance(moves, dict) or len(moves) > 4000:
        return False
    if not all(isinstance(pair, tuple) and len(pair) == 2 for pair in starts) or not isinstance(decisions, dict):
        return False
    if not all(is_state(state, states) for pair in starts for state in pair):
        return False
    if not all(is_state(state, states) and is_state(decision, 2) for state, decision in decisions.items()):
        return False
    for move, later in moves.items():
        if not isinstance(move, tuple) or len(move) != 2 or not is_state(move[0], states) or not is_state(later, states):
            return False
        if not is_heard(size, states, *move):
            return False
        if move[0] in decisions and (later not in decisions or decisions[later] != decisions[move[0]]):
            return False
    return True


def with_item(table, key, value):
    """A copy of the dict with one item more, or with another one."""
    return {**table, key: value}


def near_moves():
    """Moves of a program for two houses with five states, right and wrong ones, of which 3 and 4 are decided."""
    heards = [(0, None), (None, 0), (0, 0), (None, None), (1, None), (0, 5), (0, -1), (0,), (0, 1, 2), (), None, 0, "01"]
    heards.extend([(0, True), (False, None), (0, "1"), (0, (1,)), (0, 10 ** 60), (0, HUNDRED_DIGITS), (3, 4), (4, 3), (3, 3)])
    for state in (0, 1, 3, 4, 5, -1, True, False, None, "0", (0,), SIXTY_DIGITS, HUNDRED_DIGITS):
        for heard in heards:
            yield (state, heard), 4
            yield (state, heard), 3
    for later in (0, 1, 2, 3, 4, 5, -1, True, False, None, "1", (1,), [1], {}, SIXTY_DIGITS, HUNDRED_DIGITS):
        for state in (0, 3, 4):
            yield (state, (state, None)), later
    for key in (None, 0, "key", (), (0,), (0, (0, 0), 0), ((0, 0), 0), ((0, (0, 0)),), True, HUNDRED_DIGITS):
        yield key, 0


def near_starts():
    yield from (TELL.starts, TELL.starts[:1], TELL.starts + ((0, 0),), (), list(TELL.starts), ([0, 1], (2, 2)), ((0, 1), 2))
    yield from (((0,), (2, 2)), ((0, 1, 2), (2, 2)), ((0, 1), ()), (0, 1, 2, 2), {0: (0, 1), 1: (2, 2)})
    for state in (0, 4, 5, -1, True, False, None, "1", (1,), [1], SIXTY_DIGITS, HUNDRED_DIGITS):
        yield (state, 1), (2, 2)
        yield (0, 1), (2, state)


def near_decisions():
    yield from ({}, {3: 0}, {4: 1}, {3: 0, 4: 1}, {4: 1, 3: 0}, {3: 1, 4: 0}, {0: 0, 3: 0, 4: 1}, {2: 1, 3: 1, 4: 1}, [], ())
    for state in (0, 1, 2, 5, -1, None, "3", (3,), True, False, SIXTY_DIGITS, HUNDRED_DIGITS):
        yield {3: 0, 4: 1, state: 0}
        yield {3: 0, 4: 1, state: 1}
    for decision in (2, -1, None, "0", True, False, (0,), [0], {}, HUNDRED_DIGITS):
        yield {3: 0, 4: decision}


def near_parts():
    """Parts of programs, right and wrong ones."""
    _, _, starts, moves, decisions = PARTS
    for other in near_starts():
        yield other, moves, decisions
    for move, later in near_moves():
        yield starts, with_item(moves, move, later), decisions
        yield starts, with_item(moves, move, later), {}
    for other in near_decisions():
        yield starts, moves, other
        yield starts, {}, other
    for other in odd_values():
        yield other, moves, decisions
        yield starts, other, decisions
        yield starts, moves, other


class MakingPrograms(Checks):
    def check_parts(self, size, states, parts):
        self.assertIs(is_program(size, states, parts), judged(size, states, parts), parts)
        if judged(size, states, parts):
            program = Program(size, states, *parts)
            self.assertEqual((program.size, program.states, program.starts), (size, states, parts[0]))
            self.assertEqual((program.moves, program.decisions), parts[1:])
        else:
            self.refused(InvalidProgram, Program, size, states, *parts)

    def test_parts_of_programs(self):
        told = set()
        for parts in near_parts():
            told.add(judged(2, 5, parts))
            self.check_parts(2, 5, parts)
        self.assertEqual(told, {True, False})

    def test_drawn_parts(self):
        chance = random.Random(81)
        for size, states in itertools.product((1, 2, 3, 5), (1, 2, 5)):
            for _ in range(20):
                parts = drawn_parts(size, states, 10, chance)
                self.check_parts(size, states, parts)
                # One place has something else.
                starts, moves, decisions = parts
                for (state, heard), later in list(moves.items())[:2]:
                    for other in range(-1, states + 1):
                        self.check_parts(size, states, (starts, with_item(moves, (state, heard), other), decisions))
                        self.check_parts(size, states, (starts, moves, with_item(decisions, later, other)))

    def test_numbers_of_houses_and_of_states(self):
        for size in (1, 2, 3, 4, 5):
            program = Program(size, 1, ((0, 0),) * size, {}, {})
            self.same((program.size, program.states, len(program)), (size, 1, 0))
        self.refused(InvalidProgram, Program, 0, 1, (), {}, {})
        self.refused(InvalidProgram, Program, 6, 1, ((0, 0),) * 6, {}, {})
        self.refused(InvalidProgram, Program, 1, 0, ((0, 0),), {}, {})
        self.same(Program(1, 400, ((399, 0),), {(399, (399,)): 0}, {}).after(399, (399,)), 0)
        self.refused(InvalidProgram, Program, 1, 401, ((0, 0),), {}, {})
        self.refused(InvalidProgram, Program, 1, 400, ((400, 0),), {}, {})
        self.same((MAX_STATES, MAX_MOVES), (400, 4000))

    def test_odd_values_for_each_part(self):
        for at in range(5):
            for value in odd_values():
                parts = list(PARTS)
                parts[at] = value
                if not judged(2, 5, tuple(parts[2:])) or (at < 2 and repr(value) != repr(PARTS[at])):
                    if not (at == 1 and is_state(value, 401) and value >= 5):
                        self.refused(InvalidProgram, Program, *parts)
        for value in odd_values():
            self.refused(InvalidProgram, Program, value, value, value, value, value)

    def test_4000_moves_and_one_more(self):
        self.same((len(FULL), len(FULL_MOVES)), (4000, 4000))
        self.assertIs(is_program(2, 400, (FULL.starts, FULL_MOVES, {})), True)
        more = with_item(FULL_MOVES, (10, (10, None)), 0)
        self.refused(InvalidProgram, Program, 2, 400, FULL.starts, more, {})
        self.assertIs(is_program(2, 400, (FULL.starts, more, {})), False)

    def test_moves_that_never_come(self):
        # No first state is 2, and no move leads there.
        program = Program(1, 3, ((0, 1),), {(2, (2,)): 0}, {})
        self.same(program.after(2, (2,)), 0)

    def test_moves_from_states_with_a_decision(self):
        for later in range(4):
            moves = {(1, (1,)): later}
            right = later in (1, 3)
            self.assertIs(is_program(1, 4, (((0, 0),), moves, {1: 0, 2: 1, 3: 0})), right)
            if not right:
                self.refused(InvalidProgram, Program, 1, 4, ((0, 0),), moves, {1: 0, 2: 1, 3: 0})


class PartsOfPrograms(Checks):
    def test_moves_and_decisions_ascend(self):
        for program in drawn_programs(82, (1, 2, 3), (2, 4), 4):
            moves = list(program.moves.items())
            for order in (sorted(moves, key=lambda item: place(item[0])), moves[::-1], moves[1:] + moves[:1]):
                decisions = dict(list(program.decisions.items())[::-1])
                made = Program(program.size, program.states, program.starts, dict(order), decisions)
                self.assertIs(made == program, True)
                self.same(list(made.moves), sorted(dict(order), key=place))
                self.same(list(made.decisions), sorted(decisions))

    def test_none_stands_behind_all_states(self):
        moves = {(0, (None, 0)): 1, (0, (0, None)): 1, (0, (0, 1)): 1, (0, (1, 0)): 1, (0, (0, 0)): 1, (1, (None, 1)): 0}
        program = Program(2, 2, ((0, 0), (0, 0)), moves, {})
        self.same(list(program.moves), [(0, (0, 0)), (0, (0, 1)), (0, (0, None)), (0, (1, 0)), (0, (None, 0)), (1, (None, 1))])
        wide = {(399, (399, None)): 0, (399, (399, 399)): 0, (399, (0, 399)): 0}
        self.same(list(Program(2, 400, ((0, 0), (0, 0)), wide, {}).moves),
                  [(399, (0, 399)), (399, (399, 399)), (399, (399, None))])

    def test_nothing_is_shared(self):
        moves, decisions = dict(PARTS[3]), dict(PARTS[4])
        program = Program(2, 5, TELL.starts, moves, decisions)
        moves[(0, (0, 1))] = 1
        moves.pop((2, (0, 2)))
        decisions.clear()
        self.assertIs(program == TELL, True)
        program.moves.clear()
        program.decisions[0] = 1
        self.same((len(program), program.decisions, program.after(2, (0, 2))), (8, {3: 0, 4: 1}, 3))
        self.assertIs(program == TELL, True)

    def test_calls_change_nothing(self):
        before = repr_of(TELL)
        TELL.with_move(0, (0, 1), 2)
        TELL.without_move(2, (0, 2))
        TELL.opposite()
        TELL.turned((4, 3, 2, 1, 0))
        TELL.renumbered((1, 0))
        self.assertEqual(repr_of(TELL), before)


class Moves(Checks):
    def test_after(self):
        for program in drawn_programs(83, (1, 2, 3), (1, 2, 4), 3):
            told = [None] + list(range(program.states))
            for heard in itertools.product(told, repeat=program.size):
                for state in range(program.states):
                    if state in heard:
                        self.same(program.after(state, heard), program.moves.get((state, heard), state))
                    else:
                        self.refused(InvalidOperation, program.after, state, heard)

    def wrong_heards(self, state):
        found = [heard for (_, heard), _ in near_moves_with_pairs()] + odd_values()
        return [heard for heard in found if not is_heard(2, 5, state, heard)]

    def test_refusals(self):
        states = (InvalidNumber, wrong_numbers(0, 4))
        heards = (InvalidOperation, self.wrong_heards(0))
        self.check_refusals(TELL.after, (0, (0, None)), (states, heards))
        self.check_refusals(TELL.without_move, (0, (0, None)), (states, heards))
        self.check_refusals(TELL.with_move, (0, (0, None), 1), (states, heards, states))
        self.refused(InvalidOperation, TELL.with_move, 0, (1, None), 5)
        self.refused_number(5, TELL.with_move, 0, (0, None), 5)

    def test_with_move(self):
        more = TELL.with_move(1, (0, 1), 2)
        self.same((len(more), more.after(1, (0, 1)), len(TELL)), (9, 2, 8))
        other = TELL.with_move(0, (0, None), 0)
        self.same((len(other), other.after(0, (0, None)), TELL.after(0, (0, None))), (8, 0, 3))
        self.assertIs(TELL.with_move(0, (0, None), 3) == TELL, True)
        self.same(list(more.moves), sorted(more.moves, key=place))
        self.same((more.starts, more.decisions, more.size, more.states), (TELL.starts, TELL.decisions, 2, 5))

    def test_with_moves_from_states_with_a_decision(self):
        for state, other in ((3, 4), (4, 3)):
            for later in (0, 1, 2, other):
                self.refused(InvalidOperation, TELL.with_move, state, (state, None), later)
            self.same(TELL.with_move(state, (state, None), state).after(state, (state, None)), state)
            # What is no state is refused ahead of it.
            self.refused_number(5, TELL.with_move, state, (state, None), 5)

    def test_with_a_move_too_many(self):
        error = self.refused(TooMany, FULL.with_move, 10, (10, 0), 1)
        self.assertEqual(error.limit, 4000)
        self.same(FULL.with_move(9, (9, 399), 7).after(9, (9, 399)), 7)
        self.same(len(FULL.without_move(0, (0, 0)).with_move(10, (10, 0), 1)), 4000)
        decided = Program(2, 400, FULL.starts, {move: 0 for move in FULL_MOVES}, {0: 1, 11: 0})
        self.refused(InvalidOperation, decided.with_move, 11, (11, None), 0)
        self.refused(TooMany, decided.with_move, 11, (11, None), 11)
        self.refused_number(400, FULL.with_move, 10, (10, 0), 400)

    def test_without_move(self):
        for (state, heard), later in TELL.moves.items():
            less = TELL.without_move(state, heard)
            self.same((len(less), less.after(state, heard), TELL.after(state, heard)), (7, state, later))
            self.assertIs(less.with_move(state, heard, later) == TELL, True)
            self.refused(InvalidOperation, less.without_move, state, heard)
        self.refused(InvalidOperation, TELL.without_move, 0, (0, 1))
        self.refused(InvalidOperation, TELL.without_move, 2, (None, 2))


def near_moves_with_pairs():
    """Those of the near moves whose key is a pair."""
    return [(key, later) for key, later in near_moves() if isinstance(key, tuple) and len(key) == 2]


class OtherPrograms(Checks):
    def test_opposite(self):
        for program in drawn_programs(84, (1, 2, 3), (2, 4), 4):
            other = program.opposite()
            self.same(other.starts, tuple((one, zero) for zero, one in program.starts))
            self.same(other.decisions, {state: (1, 0)[decision] for state, decision in program.decisions.items()})
            self.same((other.moves, other.size, other.states), (program.moves, program.size, program.states))
            self.assertIs(other.opposite() == program, True)

    def test_turned(self):
        for program in drawn_programs(85, (1, 2, 3), (1, 3, 4), 3):
            for numbers in list(itertools.permutations(range(program.states)))[::5]:
                new = {None: None, **dict(enumerate(numbers))}
                moves = {(new[state], tuple(new[told] for told in heard)): new[later]
                         for (state, heard), later in program.moves.items()}
                starts = tuple((new[zero], new[one]) for zero, one in program.starts)
                decisions = {new[state]: decision for state, decision in program.decisions.items()}
                wanted = Program(program.size, program.states, starts, moves, decisions)
                self.assertIs(program.turned(numbers) == wanted, True)
                self.same(list(program.turned(numbers).moves), sorted(moves, key=place))

    def test_turned_is_no_exchange_of_old_and_new(self):
        self.same(TELL.turned((1, 2, 3, 4, 0)).starts, ((1, 2), (3, 3)))
        self.same(TELL.turned((1, 2, 3, 4, 0)).decisions, {0: 1, 4: 0})

    def test_renumbered(self):
        for program in drawn_programs(86, (1, 2, 3), (1, 3), 4):
            for numbers in itertools.permutations(range(program.size)):
                later = program.renumbered(numbers)
                for house, number in enumerate(numbers):
                    self.same(later.starts[number], program.starts[house])
                for (state, heard), target in program.moves.items():
                    row = [None] * program.size
                    for house, number in enumerate(numbers):
                        row[number] = heard[house]
                    self.same(later.moves[(state, tuple(row))], target)
                self.same((len(later), later.decisions, later.states), (len(program), program.decisions, program.states))

    def test_renumbered_is_no_exchange_of_old_and_new(self):
        program = Program(3, 3, ((0, 0), (1, 1), (2, 2)), {(0, (0, 1, 2)): 1}, {})
        later = program.renumbered((1, 2, 0))
        self.same((later.starts, later.moves), (((2, 2), (0, 0), (1, 1)), {(0, (2, 0, 1)): 1}))

    def test_no_new_numbers(self):
        for value in wrong_orders(5):
            self.refused(InvalidOperation, TELL.turned, value)
        for value in wrong_orders(2):
            self.refused(InvalidOperation, TELL.renumbered, value)
        one = Program(1, 1, ((0, 0),), {}, {})
        for value in wrong_orders(1):
            self.refused(InvalidOperation, one.turned, value)
            self.refused(InvalidOperation, one.renumbered, value)


class ProgramsAsValues(Checks):
    def test_equal_by_all_five_parts(self):
        one = Program(1, 2, ((0, 1),), {(0, (0,)): 1}, {1: 1})
        self.assertIs(one == Program(1, 2, ((0, 1),), {(0, (0,)): 1}, {1: 1}), True)
        others = [Program(1, 3, ((0, 1),), {(0, (0,)): 1}, {1: 1}), Program(1, 2, ((1, 0),), {(0, (0,)): 1}, {1: 1}),
                  Program(1, 2, ((0, 1),), {}, {1: 1}), Program(1, 2, ((0, 1),), {(0, (0,)): 0}, {1: 1}),
                  Program(1, 2, ((0, 1),), {(0, (0,)): 1}, {1: 0}), Program(1, 2, ((0, 1),), {(0, (0,)): 1}, {}),
                  Program(2, 2, ((0, 1), (0, 1)), {}, {})]
        for other in others:
            self.assertIs(one == other, False)
            self.assertIs(one != other, True)

    def test_equal_accepts_every_value(self):
        for value in odd_values() + [LINE, PARTS, TELL.moves, str(TELL), 8]:
            self.assertIs(TELL == value, False)
            self.assertIs(value == TELL, False)
            self.assertIs(TELL != value, True)

    def test_text_and_length(self):
        self.same(str(TELL), "program for 2 houses: 5 states, 8 moves")
        self.same(str(Program(1, 1, ((0, 0),), {}, {})), "program for 1 houses: 1 states, 0 moves")
        self.same((len(TELL), len(FULL), str(FULL)), (8, 4000, "program for 2 houses: 400 states, 4000 moves"))

    def test_no_iteration(self):
        for call in (iter, list, tuple, sorted):
            with self.assertRaises(TypeError):
                call(TELL)


class Judging(Checks):
    def test_other_kinds_of_triples(self):
        parts = PARTS[2:]
        self.assertIs(is_program(2, 5, parts), True)
        for value in odd_values() + [parts[:2], parts + ({},), list(parts), (parts,), parts[::-1], PARTS, TELL]:
            self.assertIs(is_program(2, 5, value), False)
        for at in range(2):
            for value in other_kinds(parts[0][at]):
                starts = parts[0][:at] + (value,) + parts[0][at + 1:]
                self.assertIs(is_program(2, 5, (starts, *parts[1:])), judged(2, 5, (starts, *parts[1:])))

    def test_refusals(self):
        sizes, states = (InvalidNumber, wrong_numbers(1, 5)), (InvalidNumber, wrong_numbers(1, 400))
        for value in (PARTS[2:], None, (1, 2, 3), [[]]):
            self.check_refusals(is_program, (2, 5, value), (sizes, states, None))
        self.refused_number(401, is_program, 5, 401, None)
        self.assertIs(is_program(5, 400, (((0, 0),) * 5, {}, {})), True)


if __name__ == "__main__":
    unittest.main()
