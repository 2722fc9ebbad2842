"""Slow ways to find what the program finds, by the words of the document, and pools to find it in.

They take `rows`: what is heard in each web of a pool, as `Web.heard` has it.
"""

import functools
import itertools
import random

from rootshared.base.pools import Pool, chain_pool, muted_pool, star_pool
from rootshared.base.webs import Web, silent_web
from rootshared.programs.programs import Program
from tests.helpers import LINE, all_heard, slow_roots

# Webs 0 and 1 are alike for web 2, which is in no link with another one.
ASIDE = Pool((Web(((), (), (0,))), Web(((2,), (), (0,))), Web(((1,), (2,), (1,)))))
NO_ROOTS = Pool((silent_web(3), Web(((1,), (0,), ())), Web(((), (), (0,)))))


def some_heard_with(size, dense, chance):
    """What is heard in a web in which each house hears another one with so many chances of ten."""
    houses = range(size)
    return tuple(tuple(other for other in houses if other != house and chance.randrange(10) < dense) for house in houses)


def near_heard(heard, chance):
    """What is heard if one house hears one other house more, or less, than here."""
    house = chance.randrange(len(heard))
    other = chance.choice([other for other in range(len(heard)) if other != house])
    row = tuple(sorted(set(heard[house]) ^ {other}))
    return heard[:house] + (row,) + heard[house + 1:]


def drawn_pool(size, many, chance):
    """A pool of webs that are often near one another, so that there are links, and some of which have no root.

    There are only four webs on two houses.
    """
    found = [some_heard_with(size, chance.choice((2, 5, 8)), chance)]
    while len(found) < many:
        heard = near_heard(chance.choice(found), chance)
        if chance.randrange(4) == 0:
            heard = some_heard_with(size, chance.choice((1, 4, 7)), chance)
        if heard not in found:
            found.append(heard)
    return Pool(tuple(Web(heard) for heard in found))


def drawn_pools(seed, sizes, webs, many):
    """So many pools for each number of houses and of webs, the same ones at each call."""
    chance = random.Random(seed)
    for size in sizes:
        for number in webs:
            for _ in range(many):
                yield drawn_pool(size, number, chance)


def small_pools():
    """All pools of webs on one and on two houses, but for the order of their webs."""
    yield Pool((silent_web(1),))
    webs = [Web(heard) for heard in all_heard(2)]
    for many in range(1, 5):
        for row in itertools.combinations(webs, many):
            yield Pool(row)


def known_pools():
    return [LINE, star_pool(3), chain_pool(3), muted_pool(2), muted_pool(3), chain_pool(4), ASIDE, NO_ROOTS]


def rows_of(pool):
    return tuple(web.heard for web in pool.webs)


def groups_of(many):
    """All ascending tuples of one or more of so many indices."""
    return [row for length in range(1, many + 1) for row in itertools.combinations(range(many), length)]


def hears(rows, index, house):
    return set(rows[index][house]) | {house}


@functools.lru_cache(maxsize=None)
def slow_alike(one, other, third):
    """Whether there is a root of the third, and each root of it hears the same houses in both."""
    roots = slow_roots(third)
    return len(roots) > 0 and all(set(one[root]) == set(other[root]) for root in roots)


@functools.lru_cache(maxsize=None)
def slow_links(rows, group):
    """All links within the group, ascending."""
    found = set()
    for one, other, third in itertools.product(group, repeat=3):
        if one < other and slow_alike(rows[one], rows[other], rows[third]):
            found.add((one, other, third))
    return tuple(sorted(found))


def slow_classes(things, tied):
    """The things put together as long as two of them in unlike classes are tied."""
    classes = [{thing} for thing in things]
    while True:
        for one, other in itertools.combinations(classes, 2):
            if any(tied(first, second) for first in one for second in other):
                classes = [row for row in classes if row not in (one, other)] + [one | other]
                break
        else:
            return tuple(sorted(tuple(sorted(row)) for row in classes))


def slow_parts_of(rows, group, links=None):
    pairs = {link[:2] for link in (slow_links(rows, group) if links is None else links)}
    return slow_classes(group, lambda one, other: (min(one, other), max(one, other)) in pairs)


def slow_closed(rows, group):
    return len(group) == 1 or len(slow_parts_of(rows, group)) == 1


def slow_closed_groups(rows):
    """The closed groups that are within no other one, found among all groups."""
    closed = [group for group in groups_of(len(rows)) if slow_closed(rows, group)]
    return tuple(sorted(group for group in closed if not any(set(group) < set(more) for more in closed)))


def slow_common_roots(rows, group):
    return tuple(house for house in range(len(rows[0])) if all(house in slow_roots(rows[index]) for index in group))


def slow_can_agree(rows):
    """Whether each closed group, the greatest or not, has a common root."""
    return all(slow_common_roots(rows, group) for group in groups_of(len(rows)) if slow_closed(rows, group))


@functools.lru_cache(maxsize=None)
def slow_knows(rows, word, house, other):
    """Whether the input of the other house came to the house behind the word."""
    if not word:
        return house == other
    return any(slow_knows(rows, word[:-1], teller, other) for teller in hears(rows, word[-1], house))


def slow_known_inputs(rows, word):
    houses = range(len(rows[0]))
    return tuple(tuple(other for other in houses if slow_knows(rows, word, house, other)) for house in houses)


def slow_heralds(rows, word):
    known = slow_known_inputs(rows, word)
    return tuple(house for house in range(len(rows[0])) if all(house in row for row in known))


def slow_words(many, rounds):
    return list(itertools.product(range(many), repeat=rounds))


def slow_latest(rows, house):
    """By all words of up to as many rounds as there are houses."""
    for rounds in range(len(rows[0]) + 1):
        if all(house in slow_heralds(rows, word) for word in slow_words(len(rows), rounds)):
            return rounds
    return None


def slow_knowing(rows, word, house):
    """The set of the houses that know the input of the house behind the word."""
    return {other for other in range(len(rows[0])) if slow_knows(rows, word, other, house)}


def slow_is_stall(rows, house, word, index):
    """Whether the pair is a stall, if it has its form."""
    knowing = slow_knowing(rows, word, house)
    return len(knowing) < len(rows[0]) and knowing == slow_knowing(rows, (*word, index), house)


@functools.lru_cache(maxsize=None)
def slow_view(rows, word, house):
    """All that the house was told: from whom it heard in the last round, and what these had been told."""
    if not word:
        return ()
    return tuple((other, slow_view(rows, word[:-1], other)) for other in sorted(hears(rows, word[-1], house)))


def slow_views(rows, rounds):
    """A dict from all words of so many rounds to the view of each house."""
    houses = range(len(rows[0]))
    return {word: tuple(slow_view(rows, word, house) for house in houses) for word in slow_words(len(rows), rounds)}


def slow_shared(rows, one, other):
    """The houses with equal views behind both words."""
    houses = range(len(rows[0]))
    return tuple(house for house in houses if slow_view(rows, one, house) == slow_view(rows, other, house))


def slow_lots(rows, rounds):
    """The lots, each by the words that are beside one of it, until there are no more."""
    views = slow_views(rows, rounds)
    left = list(views)
    lots = []
    while left:
        lot = [left.pop(0)]
        # It grows while it is gone through.
        for word in lot:
            met = [other for other in left if any(one == more for one, more in zip(views[word], views[other]))]
            lot.extend(met)
            left = [other for other in left if other not in met]
        lots.append(tuple(sorted(lot)))
    return tuple(sorted(lots))


def slow_lot_heralds(rows, rounds):
    found = []
    for lot in slow_lots(rows, rounds):
        heralds = [set(slow_heralds(rows, word)) for word in lot]
        found.append(tuple(sorted(set.intersection(*heralds))))
    return tuple(found)


def slow_is_bar(rows, words):
    """Whether the row of words of equal lengths is a bar."""
    beside = all(slow_shared(rows, one, other) for one, other in zip(words, words[1:]))
    heralds = [set(slow_heralds(rows, word)) for word in words]
    return beside and not set.intersection(*heralds)


def is_pure(value):
    """Whether the value has nothing but tuples and integers in it, True and False being none."""
    if isinstance(value, tuple):
        return all(is_pure(item) for item in value)
    return isinstance(value, int) and not isinstance(value, bool)


def near(value):
    """Values near a nested tuple: with one thing in it left out, doubled, exchanged, or of another kind."""
    yield from other_kinds(value)
    if isinstance(value, tuple):
        for at, item in enumerate(value):
            yield value[:at] + value[at + 1:]
            yield value[:at] + (item, item) + value[at + 1:]
            for changed in near(item):
                yield value[:at] + (changed,) + value[at + 1:]
        for at in range(len(value) - 1):
            yield value[:at] + (value[at + 1], value[at]) + value[at + 2:]
        for more in ((0,), (1,), ((),), ((0,),), (None,)):
            yield value + more
            yield more + value


def other_kinds(value):
    """What can stand in the place of a value, right or wrong."""
    yield from (None, str(value), [value], (value,), {0: value})
    if isinstance(value, tuple):
        yield list(value)
        yield {item: True for item in value} if is_pure(value) else {}
        yield value[::-1]
    else:
        yield from (value - 1, value + 1, value + 2, bool(value), not value, 10 ** 60, -10 ** 99)


def drawn_parts(size, states, many, chance):
    """First states, up to so many moves, and decisions of a program, with moves that keep the decisions."""
    decisions = {state: chance.randrange(2) for state in range(states) if chance.randrange(3) == 0}
    starts = tuple((chance.randrange(states), chance.randrange(states)) for _ in range(size))
    moves = {}
    for _ in range(many):
        heard = [chance.choice([None] + list(range(states))) for _ in range(size)]
        state = chance.randrange(states)
        heard[chance.randrange(size)] = state
        later = [other for other in range(states) if state not in decisions or decisions.get(other) == decisions[state]]
        moves[(state, tuple(heard))] = chance.choice(later)
    return starts, moves, decisions


def drawn_programs(seed, sizes, states, many):
    """So many programs for each number of houses and of states, the same ones at each call."""
    chance = random.Random(seed)
    for size in sizes:
        for number in states:
            for _ in range(many):
                yield Program(size, number, *drawn_parts(size, number, 12 * number, chance))


def slow_next(starts_moves, rows, index, configuration):
    """The configuration behind a round, where `starts_moves` has the moves of a program behind its first states."""
    later = []
    for house, state in enumerate(configuration):
        heard = tuple(configuration[other] if other in hears(rows, index, house) else None for other in range(len(rows[0])))
        later.append(starts_moves[1].get((state, heard), state))
    return tuple(later)


def slow_trail(program, rows, inputs, word):
    """The configurations behind each number of rounds of the word."""
    parts = (program.starts, program.moves)
    trail = [tuple(pair[given] for pair, given in zip(parts[0], inputs))]
    for index in word:
        trail.append(slow_next(parts, rows, index, trail[-1]))
    return trail
