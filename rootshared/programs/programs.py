"""Programs: what the houses do with what they hear."""

from rootshared.base.plain import check_between, check_index, is_between, is_index, is_index_tuple, is_order
from rootshared.base.pools import MAX_HOUSES
from rootshared.errors import InvalidOperation, InvalidProgram, TooMany

MAX_STATES = 400
MAX_MOVES = 4000


class Program:
    """A program for so many houses, which never changes."""

    def __init__(self, size, states, starts, moves, decisions):
        if not is_between(size, 1, MAX_HOUSES) or not is_between(states, 1, MAX_STATES):
            raise InvalidProgram("no number of houses or of states")
        if not are_parts(size, states, starts, moves, decisions):
            raise InvalidProgram("no first states, moves and decisions of a program")
        self._size = size
        self._states = states
        self._starts = starts
        self._moves = {move: moves[move] for move in sorted(list(moves), key=move_place)}
        self._decisions = {state: decisions[state] for state in sorted(list(decisions))}

    @property
    def size(self):
        """The number of houses."""
        return self._size

    @property
    def states(self):
        """The number of states."""
        return self._states

    @property
    def starts(self):
        """For each house the pair of the first states for the inputs 0 and 1."""
        return self._starts

    @property
    def moves(self):
        """A dict from the pairs (state, heard) to the states behind a round, ascending, None behind all states."""
        return {move: later for move, later in self._moves.items()}

    @property
    def decisions(self):
        """A dict from the states with a decision to it, ascending."""
        return {state: decision for state, decision in self._decisions.items()}

    def after(self, state, heard):
        """The state behind a round in which a house in the state hears this."""
        self._check_move(state, heard)
        return self._moves.get((state, heard), state)

    def _check_move(self, state, heard):
        """Refuse what is no state, and what cannot be heard in it."""
        check_index(state, self._states)
        if not can_hear(self._size, self._states, state, heard):
            raise InvalidOperation("this cannot be heard in the state")

    def with_move(self, state, heard, later):
        """The program with a move, or with another one in its place."""
        self._check_move(state, heard)
        check_index(later, self._states)
        if not is_kept(self._decisions, state, later):
            raise InvalidOperation("the move leads away from a decision")
        if (state, heard) not in self._moves and len(self._moves) >= MAX_MOVES:
            raise TooMany(MAX_MOVES)
        moves = self.moves
        moves[(state, heard)] = later
        return self._with_moves(moves)

    def without_move(self, state, heard):
        """The program without a move."""
        self._check_move(state, heard)
        if (state, heard) not in self._moves:
            raise InvalidOperation("there is no such move")
        moves = self.moves
        del moves[(state, heard)]
        return self._with_moves(moves)

    def _with_moves(self, moves):
        """The program with these moves instead."""
        return Program(self._size, self._states, self._starts, moves, self._decisions)

    def opposite(self):
        """The program with the first states for 0 and 1 exchanged, and the other decisions."""
        starts = tuple([pair[::-1] for pair in self._starts])
        decisions = {state: 1 - decision for state, decision in self._decisions.items()}
        return Program(self._size, self._states, starts, self._moves, decisions)

    def turned(self, numbers):
        """The program with new numbers of the states: state s gets the number numbers[s]."""
        if not is_order(numbers, self._states):
            raise InvalidOperation("no tuple with a new number for each state")
        starts = tuple([turned_row(pair, numbers) for pair in self._starts])
        moves = {}
        for (state, heard), later in self._moves.items():
            moves[(numbers[state], turned_row(heard, numbers))] = numbers[later]
        decisions = {numbers[state]: decision for state, decision in self._decisions.items()}
        return Program(self._size, self._states, starts, moves, decisions)

    def renumbered(self, numbers):
        """The program with new numbers of the houses: house h gets the number numbers[h]."""
        if not is_order(numbers, self._size):
            raise InvalidOperation("no tuple with a new number for each house")
        moves = {(state, placed_row(heard, numbers)): later for (state, heard), later in self._moves.items()}
        return Program(self._size, self._states, placed_row(self._starts, numbers), moves, self._decisions)

    def __len__(self):
        return len(self._moves)

    def __eq__(self, other):
        if not isinstance(other, Program):
            return False
        if self._size != other._size or self._states != other._states or self._starts != other._starts:
            return False
        return self._moves == other._moves and self._decisions == other._decisions

    def __str__(self):
        return f"program for {self._size} houses: {self._states} states, {len(self._moves)} moves"


def check_program(value):
    """Refuse what is no program."""
    if not isinstance(value, Program):
        raise InvalidProgram("no program")


def move_place(move):
    """What moves ascend by: None stands behind all states."""
    state, heard = move
    return state, tuple([MAX_STATES if told is None else told for told in heard])


def turned_row(row, numbers):
    """The row with the new numbers of its states; None stays."""
    return tuple([None if state is None else numbers[state] for state in row])


def placed_row(row, numbers):
    """The row with what stands at the place of house h at the place numbers[h]."""
    return tuple([row[numbers.index(house)] for house in range(len(row))])


def is_program(size, states, value):
    """Whether the value is a triple (starts, moves, decisions) of a program."""
    check_between(size, 1, MAX_HOUSES)
    check_between(states, 1, MAX_STATES)
    if not isinstance(value, tuple) or len(value) != 3:
        return False
    starts, moves, decisions = value
    return are_parts(size, states, starts, moves, decisions)


def are_parts(size, states, starts, moves, decisions):
    """Whether these are the parts of a program for so many houses, with so many states."""
    if not are_starts(size, states, starts) or not are_moves(size, states, moves):
        return False
    if not are_decisions(states, decisions):
        return False
    return all([is_kept(decisions, state, later) for (state, _), later in moves.items()])


def are_starts(size, states, value):
    """Whether the value is a tuple with a pair of states for each house."""
    if not isinstance(value, tuple) or len(value) != size:
        return False
    return all([is_index_tuple(pair, states) and len(pair) == 2 for pair in value])


def are_moves(size, states, value):
    """Whether the value is a dict of not too many moves, whatever the decisions are."""
    if not isinstance(value, dict) or len(value) > MAX_MOVES:
        return False
    return all([is_move(size, states, move, later) for move, later in value.items()])


def is_move(size, states, move, later):
    """Whether a move can lead there from this pair of a state and of what is heard."""
    if not isinstance(move, tuple) or len(move) != 2 or not is_index(later, states):
        return False
    state, heard = move
    return is_index(state, states) and can_hear(size, states, state, heard)


def can_hear(size, states, state, heard):
    """Whether a house in the state can hear this: a state or None of each house, and the state itself."""
    if not isinstance(heard, tuple) or len(heard) != size:
        return False
    return all([told is None or is_index(told, states) for told in heard]) and state in heard


def are_decisions(states, value):
    """Whether the value is a dict from some states to 0 or 1."""
    if not isinstance(value, dict):
        return False
    return all([is_index(state, states) and is_between(decision, 0, 1) for state, decision in value.items()])


def is_kept(decisions, state, later):
    """Whether a move from the one state to the other one keeps the decision of the first one, if it has any."""
    return state not in decisions or decisions.get(later) == decisions[state]
