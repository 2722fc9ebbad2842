"""Programs that are made: from the lots of a pool, and for a house that is always a root."""

from rootshared.base.plain import check_index, rows_over
from rootshared.base.pools import check_pool
from rootshared.errors import InvalidOperation, TooMany
from rootshared.programs.programs import MAX_MOVES, MAX_STATES, Program
from rootshared.programs.runs import all_inputs
from rootshared.words.lots import common_heralds, lots_of
from rootshared.words.views import view_numbers
from rootshared.words.words import check_rounds, known_behind

# The first states of each program that is made here have decided, for 0 and for 1.
DECIDED = {0: 0, 1: 1}


def made_program(pool, rounds):
    """A right program by which all houses have decided behind each word of so many rounds."""
    check_pool(pool)
    check_rounds(rounds)
    heralds = chosen_heralds(pool, rounds)
    sights = checked_sights(pool, rounds)
    numbers = {}
    for passed in range(rounds):
        for house, view, _, known in sights[passed]:
            for given in all_inputs(len(known)):
                numbers[(passed, house, view, given)] = len(DECIDED) + len(numbers)
    states = len(DECIDED) + len(numbers)
    for house, view, word, known in sights[rounds]:
        for given in all_inputs(len(known)):
            numbers[(rounds, house, view, given)] = given[known.index(heralds[word])]
    starts = [(numbers[(0, house, 0, (0,))], numbers[(0, house, 0, (1,))]) for house in range(pool.size)]
    moves = {}
    for passed in range(1, rounds + 1):
        add_moves(moves, pool, passed, sights[passed], numbers)
    return Program(pool.size, states, tuple(starts), moves, dict(DECIDED))


def chosen_heralds(pool, rounds):
    """A dict from the words to a house that is heard by all behind each word of the lot."""
    chosen = {}
    for lot in lots_of(pool, rounds):
        heralds = common_heralds(pool, lot)
        if not heralds:
            raise InvalidOperation("the houses cannot agree in so many rounds")
        for word in lot:
            chosen[word] = heralds[0]
    return chosen


def sights_behind(pool, rounds):
    """All views behind so many rounds.

    Each is a tuple of the house, the number of the view, the first word with it, and the houses whose inputs are known.
    """
    sights = []
    met = {}
    for word, views in view_numbers(pool, rounds).items():
        for house, view in enumerate(views):
            if (house, view) not in met:
                met[(house, view)] = True
                sights.append((house, view, word, known_behind(pool, word)[house]))
    return sights


def many_triples(sights):
    """How many triples there are of a house, a view of it, and inputs that it knows."""
    return sum([1 << len(known) for _, _, _, known in sights])


def checked_sights(pool, rounds):
    """The views behind each number of rounds, from 0 to the last one, if they are not too many for a program."""
    sights = [sights_behind(pool, 0)]
    states = len(DECIDED)
    moves = 0
    for passed in range(rounds):
        states += many_triples(sights[passed])
        if states > MAX_STATES:
            raise TooMany(MAX_STATES)
        sights.append(sights_behind(pool, passed + 1))
        moves += many_triples(sights[passed + 1])
    if moves > MAX_MOVES:
        raise TooMany(MAX_MOVES)
    return sights


def add_moves(moves, pool, passed, sights, numbers):
    """Put the moves of the last of the passed rounds into the dict `moves`.

    `sights` has the views behind these rounds; `numbers` the states by rounds, house, number of the view and inputs.
    """
    before = view_numbers(pool, passed - 1)
    for house, view, word, known in sights:
        views = before[word[:-1]]
        sources = known_behind(pool, word[:-1])
        heard = pool[word[-1]].hears(house)
        for given in all_inputs(len(known)):
            row = [None] * pool.size
            for other in heard:
                inputs = tuple([given[known.index(source)] for source in sources[other]])
                row[other] = numbers[(passed - 1, other, views[other], inputs)]
            moves[(row[house], tuple(row))] = numbers[(passed, house, view, given)]


def herald_program(pool, house):
    """A right program by which all houses decide for the input of this house, as soon as they hear of it."""
    check_pool(pool)
    check_index(house, pool.size)
    if house not in pool.always:
        raise InvalidOperation("the house is not a root of all webs")
    silent = len(DECIDED)
    starts = [(silent, silent)] * pool.size
    starts[house] = (0, 1)
    moves = {}
    for decided in DECIDED:
        for heard in rows_over(pool.size, (decided, silent, None)):
            # A house that has not decided hears itself, and somebody who has.
            if silent in heard and decided in heard:
                moves[(silent, heard)] = decided
    return Program(pool.size, silent + 1, tuple(starts), moves, dict(DECIDED))
