"""Runs of programs, round by round."""

from rootshared.base.plain import check_index, check_undo, is_between, is_index_tuple, rows_over
from rootshared.base.pools import check_pool_of
from rootshared.base.webs import check_web
from rootshared.errors import InvalidInputs, InvalidWord
from rootshared.programs.programs import check_program


def is_inputs(value, size):
    """Whether the value is a tuple with 0 or 1 for each of so many houses."""
    return isinstance(value, tuple) and len(value) == size and all([is_between(given, 0, 1) for given in value])


def check_inputs(value, size):
    """Refuse what is no tuple with 0 or 1 for each of so many houses."""
    if not is_inputs(value, size):
        raise InvalidInputs("no tuple with 0 or 1 for each house")


def all_inputs(size):
    """All inputs of so many houses, ascending."""
    return rows_over(size, (0, 1))


def first_configuration(program, inputs):
    """The configuration at the beginning of a run."""
    check_program(program)
    check_inputs(inputs, program.size)
    return tuple([pair[given] for pair, given in zip(program.starts, inputs)])


def next_configuration(program, web, configuration):
    """The configuration behind a round with this web."""
    check_program(program)
    check_web(web, program.size)
    if not is_configuration(program, configuration):
        raise InvalidInputs("no tuple with a state of each house")
    rows = [heard_row(web, configuration, house) for house in range(program.size)]
    return tuple([program.after(state, heard) for state, heard in zip(configuration, rows)])


def is_configuration(program, value):
    """Whether the value is a tuple with a state of each house."""
    return is_index_tuple(value, program.states) and len(value) == program.size


def heard_row(web, configuration, house):
    """What the house hears: the state of each house, or None where it does not hear it."""
    heard = web.hears(house)
    return tuple([state if other in heard else None for other, state in enumerate(configuration)])


class Run:
    """A run of a program, by webs of a pool."""

    def __init__(self, program, pool, inputs):
        check_program(program)
        check_pool_of(pool, program.size)
        check_inputs(inputs, program.size)
        self._program = program
        self._pool = pool
        self._inputs = inputs
        self._word = []
        # The configurations behind each number of rounds, from 0 to the present one.
        self._trail = [first_configuration(program, inputs)]

    @property
    def program(self):
        """The program."""
        return self._program

    @property
    def pool(self):
        """The pool."""
        return self._pool

    @property
    def inputs(self):
        """The input of each house."""
        return self._inputs

    @property
    def word(self):
        """The webs that came."""
        return tuple(self._word)

    @property
    def configuration(self):
        """The configuration as it is now."""
        return self._trail[-1]

    @property
    def decisions(self):
        """A tuple with the decision of each house, or None."""
        decided = self._program.decisions
        return tuple([decided.get(state) for state in self._trail[-1]])

    @property
    def since(self):
        """A tuple with the number of rounds behind which each house had decided first, or None."""
        decided = self._program.decisions
        return tuple([first_decided(decided, self._trail, house) for house in range(self._program.size)])

    def go(self, index):
        """Do a round with a web, and tell the configuration then."""
        check_index(index, len(self._pool))
        later = next_configuration(self._program, self._pool[index], self._trail[-1])
        self._word.append(index)
        self._trail.append(later)
        return later

    def follow(self, word):
        """Do one round for each web of the word, and tell the configurations."""
        if not is_index_tuple(word, len(self._pool)):
            raise InvalidWord("no tuple of indices of webs")
        before = len(self._trail)
        for index in word:
            self.go(index)
        return tuple(self._trail[before:])

    def undo(self, *, many=1):
        """Take the last rounds back, and tell their webs, the last one first."""
        check_undo(many, len(self._word))
        kept = len(self._word) - many
        taken = tuple(self._word[kept:])
        del self._word[kept:]
        del self._trail[kept + 1:]
        return taken[::-1]

    def twin(self):
        """An equal run with an equal past that goes on by itself."""
        made = Run(self._program, self._pool, self._inputs)
        made._word = list(self._word)
        made._trail = list(self._trail)
        return made

    def __bool__(self):
        return None in self.decisions

    def __len__(self):
        return len(self._word)

    def __eq__(self, other):
        if not isinstance(other, Run) or self._program != other._program or self._pool != other._pool:
            return False
        return self._inputs == other._inputs and self._word == other._word

    def __str__(self):
        return f"run of {self._program.size} houses: {len(self._word)} rounds, {count_decided(self.decisions)} decided"


def first_decided(decided, trail, house):
    """The least number of rounds behind which the house has decided, where `decided` has the states with a decision."""
    for rounds, configuration in enumerate(trail):
        if configuration[house] in decided:
            return rounds
    return None


def count_decided(decisions):
    """How many of the decisions are there."""
    return len([decision for decision in decisions if decision is not None])
