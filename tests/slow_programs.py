"""Slow ways to find what programs come to, by the words of the document, and programs to find it of.

As in `slow.py`, `rows` has what is heard in each web of a pool; `group` has the indices of the webs that come.
"""

import itertools
import random

from rootshared.base.pools import Pool
from rootshared.base.webs import Web, silent_web
from rootshared.errors import InvalidOperation, TooMany
from rootshared.make.makers import made_program
from rootshared.programs.programs import Program
from tests.helpers import BOTH, LEFT, LINE, RIGHT, TELL
from tests.slow import drawn_pools, drawn_programs, known_pools, slow_next, slow_trail


def inputs_of(size):
    return list(itertools.product((0, 1), repeat=size))


def group_of(pool):
    return tuple(range(len(pool)))


class Walk:
    """All that a program comes to by webs of a group, with some inputs."""

    def __init__(self, program, rows, inputs, group):
        self.inputs = inputs
        self.decisions = program.decisions
        parts = (program.starts, program.moves)
        self.first = slow_trail(program, rows, inputs, ())[0]
        self.later = {}
        left = [self.first]
        while left:
            present = left.pop()
            if present not in self.later:
                self.later[present] = [slow_next(parts, rows, index, present) for index in group]
                left.extend(self.later[present])

    def made(self, configuration):
        """The set of the decisions in the configuration."""
        return {self.decisions[state] for state in configuration if state in self.decisions}

    def all_decided(self, configuration):
        return all(state in self.decisions for state in configuration)

    def behind(self, starts):
        """All configurations that are reached from the starts, these included."""
        found, left = set(), list(starts)
        while left:
            present = left.pop()
            if present not in found:
                found.add(present)
                left.extend(self.later[present])
        return found

    def ahead(self, configuration):
        """The decisions ahead."""
        return tuple(sorted(set().union(*[self.made(other) for other in self.behind([configuration])])))

    def returns(self, configuration):
        """Whether rounds lead back to the configuration."""
        return configuration in self.behind(self.later[configuration])

    def kinds(self):
        """The kinds of faults that there are."""
        found = set()
        for configuration in self.later:
            made = self.made(configuration)
            if len(made) == 2:
                found.add("unlike")
            if not made <= set(self.inputs):
                found.add("strange")
            if not self.all_decided(configuration) and self.returns(configuration):
                found.add("round")
        return found

    def rounds(self):
        """The number of rounds behind which all have decided, by all configurations behind each number."""
        level, rounds = {self.first}, 0
        while not all(self.all_decided(configuration) for configuration in level):
            level = {later for configuration in level for later in self.later[configuration]}
            rounds += 1
        return rounds


def walks_of(program, rows, group):
    return [Walk(program, rows, inputs, group) for inputs in inputs_of(program.size)]


def slow_kinds(program, rows, group):
    """The kinds of faults by webs of the group."""
    return set().union(*[walk.kinds() for walk in walks_of(program, rows, group)])


def slow_slowest(program, rows, group):
    return max(walk.rounds() for walk in walks_of(program, rows, group))


def slow_is_fault(program, rows, fault):
    """Whether what has the form of a fault is one."""
    kind, inputs, word = fault[:3]
    trail = slow_trail(program, rows, inputs, word + (fault[3] if kind == "round" else ()))
    end = trail[len(word)]
    made = {program.decisions[state] for state in end if state in program.decisions}
    if kind == "unlike":
        return len(made) == 2
    if kind == "strange":
        return not made <= set(inputs)
    undecided = any(state not in program.decisions for state in end)
    return undecided and len(fault[3]) > 0 and trail[-1] == end


def bent_program(program, chance):
    """The program with a move left out, or with another one in its place."""
    (state, heard), later = chance.choice(list(program.moves.items()))
    if chance.randrange(2):
        return program.without_move(state, heard)
    other = chance.randrange(program.states)
    try:
        return program.with_move(state, heard, other)
    except InvalidOperation:
        return program.without_move(state, heard)


def telling_program(size, house):
    """The program by which houses decide for the input of a house as soon as they hear of it, right or not."""
    starts = tuple((0, 1) if other == house else (2, 2) for other in range(size))
    moves = {}
    for heard in itertools.product((0, 1, 2, None), repeat=size):
        if 2 in heard and (0 in heard) != (1 in heard):
            moves[(2, heard)] = 0 if 0 in heard else 1
    return Program(size, 3, starts, moves, {0: 0, 1: 1})


def silent_program(size):
    """A program by which nobody ever decides."""
    return Program(size, 2, ((0, 1),) * size, {}, {})


def own_program(size):
    """A program by which each house decides for its own input ahead of all rounds."""
    return Program(size, 2, ((0, 1),) * size, {}, {0: 0, 1: 1})


def small_pools_for_programs():
    """Pools of up to four webs with two or three houses, and one with one house."""
    found = [Pool((silent_web(1),)), LINE, LINE.part((0, 2)), Pool((RIGHT, LEFT)), Pool((BOTH,))]
    found.extend(pool for pool in known_pools() if len(pool) < 5 and pool.size < 4)
    found.extend(drawn_pools(101, (2, 3), (1, 2, 3, 4), 3))
    return found


def made_programs(pool, most):
    """The programs that are made for the pool, for each number of rounds up to the most."""
    found = []
    for rounds in range(most + 1):
        try:
            found.append(made_program(pool, rounds))
        except (InvalidOperation, TooMany):
            pass
    return found


def programs_for(pool, chance):
    """Programs of all kinds for the pool: made, bent, for the input of a house, silent, and of whatever moves."""
    size = pool.size
    found = made_programs(pool, 2)
    found.extend(bent_program(program, chance) for program in list(found) if program.moves for _ in range(3))
    found.extend(telling_program(size, house) for house in range(size))
    found.extend([silent_program(size), own_program(size)])
    found.extend(drawn_programs(chance.randrange(10 ** 6), (size,), (3, 5), 2))
    if size == 2:
        found.extend([TELL, TELL.opposite(), TELL.renumbered((1, 0)), chasing_program()])
    return found


def cases(seed):
    """All pairs of a program and a small pool on as many houses."""
    chance = random.Random(seed)
    for pool in small_pools_for_programs():
        for program in programs_for(pool, chance):
            yield program, pool


def counting_program(first, second, starts=None):
    """A program for two houses, which count to so many states each in the rounds in which they hear nobody.

    With the pool of the two webs of `COUNTING` all pairs of states are reached.
    """
    moves = {(state, (state, None)): state + 1 for state in range(first - 1)}
    moves.update({(state, (None, state)): state + 1 for state in range(first, first + second - 1)})
    return Program(2, first + second, starts or ((0, 0), (first, first)), moves, {})


COUNTING = Pool((Web(((), (0,))), Web(((1,), ()))))


def chasing_program():
    """A program for `LINE` that never decides wrongly, and always decides if one web comes again and again.

    With unlike inputs both decisions are ahead as long as webs 0 and 1 come by turns. States 0 to 3 are those of house 0
    ahead of web 0 and ahead of web 1, with its input, states 4 to 7 those of house 1; then come the decisions.
    """
    moves = {}
    for turn, given in itertools.product((0, 1), repeat=2):
        zero, one, told = 2 * turn + given, 4 + 2 * turn + given, 8 + given
        next_zero, next_one = 2 * (1 - turn) + given, 4 + 2 * (1 - turn) + given
        moves[(zero, (zero, None))] = next_zero if turn == 0 else told
        moves[(one, (None, one))] = told if turn == 0 else next_one
        for other in (0, 1):
            moves[(zero, (zero, 4 + 2 * turn + other))] = 8 + other if turn == 0 else next_zero
            moves[(one, (2 * turn + other, one))] = next_one if turn == 0 else 8 + other
            moves[(zero, (zero, 8 + other))] = moves[(one, (8 + other, one))] = 8 + other
    return Program(2, 10, ((0, 1), (4, 5)), moves, {8: 0, 9: 1})


def forking_program():
    """A program for `COUNTING` by which house 0 alone decides: by web 0 first, it is open for one round more at most.

    By web 1 first, both decisions stay ahead as long as web 0 comes.
    """
    moves = {(0, (0, None)): 1, (0, (0, 5)): 2, (1, (1, None)): 3, (1, (1, 5)): 4, (2, (2, 5)): 1}
    return Program(2, 6, ((0, 0), (5, 5)), moves, {3: 0, 4: 1})
