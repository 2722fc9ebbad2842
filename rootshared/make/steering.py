"""Programs that are driven: by webs of a group, so that both decisions can still come."""

from rootshared.base.plain import check_between, is_plain_integer
from rootshared.base.pools import check_group
from rootshared.errors import InvalidNumber, InvalidOperation, InvalidWord
from rootshared.groups.groups import spaced
from rootshared.programs.checks import (MOST_JUDGED, Reach, Rounds, check_program_and_pool, fault_by, longest_walks,
                                        steps_back)
from rootshared.programs.runs import Run, check_inputs, first_configuration, is_inputs

# How many webs an open word that is returned may have, and how many rounds are kept open at once.
MOST_KEPT = 200


def is_group_index(indices, value):
    """Whether the value is an index of the group."""
    return is_plain_integer(value) and value in indices


def is_group_word(indices, value):
    """Whether the value is a tuple of not too many indices of the group."""
    if not isinstance(value, tuple) or len(value) > MOST_JUDGED:
        return False
    return all([is_group_index(indices, index) for index in value])


def places_of(indices, word):
    """The places of the webs of a word among those of the group."""
    return [indices.index(index) for index in word]


def decisions_from(rounds, configuration):
    """The ascending tuple of the decisions that some house has made here, or makes behind further rounds."""
    met = {configuration: True}
    queue = [configuration]
    made = {}
    done = 0
    # Nothing more can be found behind both.
    while done < len(queue) and len(made) < 2:
        present = queue[done]
        for state in present:
            if state in rounds.decided:
                made[rounds.decided[state]] = True
        for later in rounds.later(present):
            if later not in met:
                met[later] = True
                queue.append(later)
        done += 1
    return tuple(sorted(list(made)))


def decisions_by_configuration(rounds, members):
    """A dict from the configurations, behind which there are no others, to the decisions ahead in them."""
    back = steps_back(rounds, members)
    ahead = {member: () for member in members}
    for decision in (0, 1):
        queue = [member for member in members if has_made(rounds, member, decision)]
        met = {member: True for member in queue}
        done = 0
        while done < len(queue):
            present = queue[done]
            ahead[present] = (*ahead[present], decision)
            for earlier in back[present]:
                if earlier not in met:
                    met[earlier] = True
                    queue.append(earlier)
            done += 1
    return ahead


def has_made(rounds, configuration, decision):
    """Whether some house of the configuration has this decision."""
    return decision in [rounds.decided.get(state) for state in configuration]


def check_driven(program, pool, inputs, indices, word):
    """Refuse what is no program, pool, inputs, group or word of the group."""
    check_program_and_pool(program, pool)
    check_inputs(inputs, program.size)
    check_group(pool, indices)
    if not is_group_word(indices, word):
        raise InvalidWord("no tuple of at most 2000 indices of the group")


def decisions_ahead(program, pool, inputs, indices, word):
    """The ascending tuple of the decisions ahead behind the word."""
    check_driven(program, pool, inputs, indices, word)
    rounds = Reach(program, pool.part(indices).webs).rounds
    first = first_configuration(program, inputs)
    return decisions_from(rounds, rounds.behind(first, places_of(indices, word)))


def is_open(program, pool, inputs, indices, word):
    """Whether both decisions are ahead behind the word."""
    return len(decisions_ahead(program, pool, inputs, indices, word)) == 2


def open_inputs(program, pool, indices):
    """The ascending tuple of all inputs with which both decisions are ahead behind no web."""
    check_program_and_pool(program, pool)
    check_group(pool, indices)
    reach = Reach(program, pool.part(indices).webs)
    ahead = decisions_by_configuration(reach.rounds, reach.all_reached())
    return tuple([inputs for inputs in reach.ways if len(ahead[first_configuration(program, inputs)]) == 2])


def driven_fault(program, pool, indices):
    """A fault of the program by webs of the group alone."""
    check_program_and_pool(program, pool)
    check_group(pool, indices)
    fault = fault_by(program, pool, indices)
    if fault is None:
        raise InvalidOperation("there is no fault by webs of the group")
    return fault


def open_word(program, pool, indices, rounds):
    """A pair of inputs and a word of so many webs of the group at which both decisions stay ahead."""
    check_program_and_pool(program, pool)
    check_group(pool, indices)
    check_between(rounds, 0, MOST_KEPT)
    reach = Reach(program, pool.part(indices).webs)
    ahead = decisions_by_configuration(reach.rounds, reach.all_reached())
    still = {configuration: True for configuration, made in ahead.items() if len(made) == 2}
    # Those from which both stay ahead for ever are left out.
    walks = longest_walks(reach.rounds, still)
    for inputs in reach.ways:
        first = first_configuration(program, inputs)
        if first in still and walks.get(first, rounds) >= rounds:
            return inputs, tuple([indices[at] for at in walk_along(reach.rounds, first, rounds, still, walks)])
    raise InvalidOperation("there is no open word of so many webs")


def walk_along(rounds, first, many, members, walks):
    """The places of the webs of so many rounds from the first configuration, which lead through members alone.

    `walks` has the most rounds that lead from members so, for those from which they cannot go on for ever.
    """
    places = []
    present = first
    for left in range(many, 0, -1):
        later = rounds.later(present)
        fit = [at for at, other in enumerate(later) if other in members and walks.get(other, left) >= left - 1]
        places.append(fit[0])
        present = later[fit[0]]
    return places


def is_open_word(program, pool, indices, value):
    """Whether the value is a pair of inputs and a word of webs of the group at which both decisions stay ahead."""
    check_program_and_pool(program, pool)
    check_group(pool, indices)
    if not isinstance(value, tuple) or len(value) != 2:
        return False
    inputs, word = value
    if not is_inputs(inputs, program.size) or not is_group_word(indices, word):
        return False
    rounds = Rounds(program, pool.part(indices).webs)
    end = rounds.behind(first_configuration(program, inputs), places_of(indices, word))
    # What is ahead behind the whole word was ahead behind each beginning of it.
    return len(decisions_from(rounds, end)) == 2


class Drive:
    """A run of a program by webs of a group, with the decisions that are ahead."""

    def __init__(self, program, pool, indices, inputs):
        check_program_and_pool(program, pool)
        check_group(pool, indices)
        check_inputs(inputs, program.size)
        self._program = program
        self._pool = pool
        self._group = indices
        part = pool.part(indices)
        reach = Reach(program, part.webs)
        # For each configuration that is reached the ones behind a round with each web, and the decisions ahead.
        self._later = {reached: reach.rounds.later(reached) for reached in reach.ways[inputs]}
        self._made = decisions_by_configuration(reach.rounds, reach.ways[inputs])
        # Its webs are those of the part, so their indices are places in the group.
        self._run = Run(program, part, inputs)

    @property
    def group(self):
        """The group."""
        return self._group

    @property
    def inputs(self):
        """The input of each house."""
        return self._run.inputs

    @property
    def word(self):
        """The webs that came."""
        return tuple([self._group[at] for at in self._run.word])

    @property
    def ahead(self):
        """The ascending tuple of the decisions ahead."""
        return self._made[self._run.configuration]

    @property
    def choices(self):
        """The ascending tuple of the webs of the group behind which both decisions are ahead."""
        later = self._later[self._run.configuration]
        return tuple([index for index, other in zip(self._group, later) if len(self._made[other]) == 2])

    def go(self, index):
        """Do a round with a web of the group, and tell the decisions ahead then."""
        if not is_group_index(self._group, index):
            raise InvalidNumber(index)
        self._run.go(self._group.index(index))
        return self.ahead

    def keep(self, *, most=10):
        """Do rounds behind which both decisions are ahead, at most so many, and tell how many."""
        check_between(most, 0, MOST_KEPT)
        done = 0
        while done < most and len(self.choices) > 0:
            self.go(self.choices[0])
            done += 1
        return done

    def undo(self, *, many=1):
        """Take the last rounds back, and tell their webs, the last one first."""
        return tuple([self._group[at] for at in self._run.undo(many=many)])

    def twin(self):
        """An equal one with an equal past that goes on by itself."""
        made = Drive(self._program, self._pool, self._group, self._run.inputs)
        made._run = self._run.twin()
        return made

    def __bool__(self):
        return bool(len(self.ahead) == 2)

    def __len__(self):
        return len(self._run)

    def __eq__(self, other):
        if not isinstance(other, Drive) or self._pool != other._pool or self._group != other._group:
            return False
        return self._run == other._run

    def __str__(self):
        return f"drive: {len(self._run)} rounds, ahead {spaced(self.ahead) or 'nothing'}"
