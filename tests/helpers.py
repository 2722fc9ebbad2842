"""What the tests share: odd values, slow ways to find what the program finds, and checks of refusals."""

import copy
import itertools
import unittest

from rootshared.base.pools import Pool, star_pool
from rootshared.base.webs import Web, full_web, silent_web
from rootshared.desk.desk import Desk
from rootshared.errors import InvalidNumber
from rootshared.groups.groups import Sieve
from rootshared.make.steering import Drive
from rootshared.pools.families import Gathering
from rootshared.programs.programs import Program
from rootshared.programs.runs import Run
from rootshared.text.shell import Shell
from rootshared.words.words import Hearsay

RIGHT = Web(((), (0,)))
LEFT = Web(((1,), ()))
BOTH = Web(((1,), (0,)))
LINE = Pool((RIGHT, LEFT, BOTH))
TELL = Program(2, 5, ((0, 1), (2, 2)), {(0, (0, None)): 3, (1, (1, None)): 4, (0, (0, 2)): 3, (1, (1, 2)): 4,
                                        (2, (0, 2)): 3, (2, (1, 2)): 4, (2, (3, 2)): 3, (2, (4, 2)): 4}, {3: 0, 4: 1})

SIXTY_DIGITS = 10 ** 60 - 1
HUNDRED_DIGITS = 10 ** 100 - 1


def nested(depth, wrap):
    """An empty value, wrapped so many times."""
    value = ()
    for _ in range(depth - 1):
        value = wrap(value)
    return value


def odd_values():
    """Values of all kinds that callers can pass, made anew at each call."""
    numbers = [-1, 0, 1, 2, 3, 4, 5, 6, 7, 8, 9, 100, SIXTY_DIGITS, SIXTY_DIGITS + 1, HUNDRED_DIGITS]
    numbers.extend([-SIXTY_DIGITS, -SIXTY_DIGITS - 1, -HUNDRED_DIGITS])
    texts = ["", "0", "1", "a", "web", "(0, 1)", "two\nlines", "~ !" * 600]
    tuples = [(), (0,), (1, 0), (0, 1), (0, 1, 2), (True, False), (False, True), ((),), (None,), ("0", "1")]
    tuples.extend([((1,), (0,)), ([], []), ((1,), [0]), (RIGHT,), (LINE,), ((HUNDRED_DIGITS,), ())])
    lists = [[], [0], [0, 1], [1, 0], [[1], [0]], [(1,), (0,)], [RIGHT], [None, True]]
    dicts = [{}, {0: 1, 1: 0}, {(0, 1): [0]}, {"heard": ((1,), (0,))}]
    deep = [nested(8, lambda value: (value,)), nested(8, lambda value: [value]), nested(8, lambda value: {0: value})]
    webs = [Web(((),)), Web(((), (0,))), Web(((2,), (), (0,))), Web(((1, 2, 3, 4), (), (), (), ()))]
    pools = [Pool((Web(((),)),)), Pool((RIGHT, LEFT)), Pool((Web(((), (), (0,))),))]
    made = [Sieve(LINE), Hearsay(LINE), TELL.opposite(), Run(TELL, LINE, (1, 0)), InvalidNumber(3)]
    made.extend([Drive(TELL, LINE, (0, 2), (1, 0)), Gathering(2), Desk(), Shell()])
    return [None, True, False, *numbers, *texts, *tuples, *lists, *dicts, *deep, *webs, *pools, *made]


def is_number(value, least, most):
    return isinstance(value, int) and value is not True and value is not False and least <= value <= most


def wrong_numbers(least, most):
    """The odd values that are no integers in these limits."""
    return [value for value in odd_values() if not is_number(value, least, most)]


def wrong_orders(many):
    """The odd values, and others near an order, that are no tuple of 0, 1, .. many - 1 in some order."""
    order = tuple(range(many))
    near = [order + (many,), order[:-1], order[:-1] + (many,), order[:-1] + (-1,), list(order), (order,)]
    near.extend([order[:-1] + (False,), order[:-1] + (str(many - 1),), order[:-1] + (None,)])
    near.extend([order[:-1] + (HUNDRED_DIGITS,), dict.fromkeys(order)])
    if many > 1:
        near.extend([order[:-1] + (0,), (False, True) + order[2:], (0,) * many])
    # Texts are compared, as (True, False) equals (1, 0).
    right = {repr(row) for row in itertools.permutations(order)}
    return [value for value in near + odd_values() if repr(value) not in right]


def wrong_webs(size):
    """The odd values that are no webs with so many houses."""
    return [value for value in odd_values() if not (isinstance(value, Web) and len(value.heard) == size)]


def wrong_pools():
    """The odd values, and others near a pool, that are none."""
    return [value for value in odd_values() if not isinstance(value, Pool)] + [LINE.webs, list(LINE.webs), [LINE]]


def is_index_row(value, many):
    """Whether the value is a tuple of indices of so many things."""
    return isinstance(value, tuple) and all(is_number(index, 0, many - 1) for index in value)


def wrong_rows(many):
    """The odd values, and others near a tuple of indices of so many things, that are none."""
    near = [(many,), (-1,), (0, many), (0, -1, 0), (True,), (0, False), [0], [0, 0], {0: 0}, "0", (0, "0"), (0, None)]
    near.extend([(0, (0,)), ((0,),), (0, [0]), (HUNDRED_DIGITS,), (0, SIXTY_DIGITS + 1), (0,) * 12 + (many,), (LINE,)])
    return [value for value in near + odd_values() if not is_index_row(value, many)]


def wrong_groups(pool):
    """Values that are no groups of the pool."""
    many = len(pool.webs)
    near = [(), (0, 0), (0,) * many, (many - 1, 0), tuple(range(many + 1)), tuple(range(many))[::-1]]
    right = {repr(row) for length in range(1, many + 1) for row in itertools.combinations(range(many), length)}
    return [value for value in near + odd_values() + wrong_rows(many) if repr(value) not in right]


def wrong_words(pool):
    """Values that are no words of the pool with at most 12 webs."""
    return wrong_rows(len(pool.webs)) + [(0,) * 13, (0,) * 14, (0,) * 500, (len(pool.webs) - 1,) * 13]


def wrong_programs():
    return [value for value in odd_values() if not isinstance(value, Program)]


def wrong_inputs(size):
    """Values that are no tuples with 0 or 1 for each house."""
    near = [(0,) * (size - 1), (0,) * (size + 1), [0] * size, (0,) * (size - 1) + (2,), (0,) * (size - 1) + (True,)]
    near.extend([(False,) * size, (0,) * (size - 1) + (-1,), ("0",) * size, (None,) * size, "0" * size, dict.fromkeys(range(size), 0)])
    right = {repr(row) for row in itertools.product((0, 1), repeat=size)}
    return [value for value in near + odd_values() if repr(value) not in right]


def wrong_pools_for(size):
    """Values that are no pools on so many houses."""
    found = [value for value in odd_values() + wrong_pools() if not isinstance(value, Pool) or value.size != size]
    more = [star_pool(3), LINE, Pool((silent_web(1),)), Pool((full_web(5),))]
    return found + [pool for pool in more if pool.size != size]


def wrong_undos():
    """The odd values that are no integers of at least 0."""
    return wrong_numbers(0, SIXTY_DIGITS)


def all_heard(size, step=1):
    """What can be heard in webs with so many houses, each of them or one of so many."""
    pairs = [(house, other) for house in range(size) for other in range(size) if house != other]
    for number in range(0, 2 ** len(pairs), step):
        rows = [[] for _ in range(size)]
        for at, (house, other) in enumerate(pairs):
            if number >> at & 1:
                rows[house].append(other)
        yield tuple(tuple(row) for row in rows)


def some_heard():
    """All that can be heard with up to three houses, and some of what can with four and five."""
    for size, step in ((1, 1), (2, 1), (3, 1), (4, 11), (5, 3331)):
        yield from all_heard(size, step)


def slow_ways(heard):
    """The set of all pairs (one, other) so that ways lead from one house to the other."""
    size = len(heard)
    ways = {(house, house) for house in range(size)}
    ways |= {(other, house) for house in range(size) for other in heard[house]}
    for middle in range(size):
        for one in range(size):
            for other in range(size):
                if (one, middle) in ways and (middle, other) in ways:
                    ways.add((one, other))
    return ways


def slow_roots(heard):
    ways = slow_ways(heard)
    houses = range(len(heard))
    return tuple(house for house in houses if all((house, other) in ways for other in houses))


def slow_parts(heard):
    """The largest sets of houses with ways from each to each, found among all sets of houses."""
    ways = slow_ways(heard)
    houses = range(len(heard))
    sets = [row for many in range(1, len(heard) + 1) for row in itertools.combinations(houses, many)]
    tied = [row for row in sets if all((one, other) in ways for one in row for other in row)]
    return tuple(sorted(row for row in tied if not any(set(row) < set(more) for more in tied)))


def slow_known(rows):
    """For each house the set of the houses of which it knows behind rounds with what is heard in each."""
    known = [{house} for house in range(len(rows[0]))]
    for heard in rows:
        known = [known[house].union(*[known[other] for other in heard[house]]) for house in range(len(heard))]
    return known


def without_selves(sets):
    return tuple(tuple(sorted(row - {house})) for house, row in enumerate(sets))


class Checks(unittest.TestCase):
    """A test case that can ask for a refusal."""

    def refused(self, error, call, *arguments):
        """The error with which the call is refused: of just this class, without a change of the arguments."""
        before = copy.deepcopy(arguments)
        with self.assertRaises(error) as caught:
            call(*arguments)
        self.assertIs(caught.exception.__class__, error, arguments)
        self.assertEqual(repr_of(arguments), repr_of(before))
        return caught.exception

    def refused_number(self, value, call, *arguments):
        """The call is refused for the number, which the error keeps itself."""
        self.assertIs(self.refused(InvalidNumber, call, *arguments).given, value)

    def check_refusals(self, call, good, kinds):
        """Each wrong value is refused in the place of its argument, and of several wrong ones the first is.

        `kinds` has for each argument of the good call the error and the wrong values, or None if all values are let.
        """
        judged = [at for at, kind in enumerate(kinds) if kind is not None]
        for at in judged:
            for value in kinds[at][1]:
                self.check_wrong(call, good, kinds, {at: value})
        for one, other in itertools.combinations(judged, 2):
            for step in range(max(len(kinds[one][1]), len(kinds[other][1]))):
                values = {at: kinds[at][1][step * leap % len(kinds[at][1])] for at, leap in ((one, 1), (other, 7))}
                self.check_wrong(call, good, kinds, values)
        for step in range(50):
            values = {at: kinds[at][1][step * (at + 1) % len(kinds[at][1])] for at in judged}
            self.check_wrong(call, good, kinds, values)

    def check_wrong(self, call, good, kinds, values):
        given = [values.get(at, value) for at, value in enumerate(good)]
        first = min(values)
        error = self.refused(kinds[first][0], call, *given)
        if kinds[first][0] is InvalidNumber:
            self.assertIs(error.given, values[first])

    def same(self, one, other):
        """Both values are equal, and of equal kinds throughout."""
        self.assertEqual(repr_of(one), repr_of(other))


def repr_of(value):
    """What tells a value from others, with what objects consist of and True told from 1."""
    if isinstance(value, Web):
        return f"Web({value.heard!r})"
    if isinstance(value, Pool):
        return f"Pool({repr_of(value.webs)})"
    if isinstance(value, (tuple, list)):
        return f"{value.__class__.__name__}({', '.join(repr_of(item) for item in value)})"
    if isinstance(value, dict):
        return f"dict({repr_of(list(value.items()))})"
    if value.__class__.__module__.startswith("rootshared"):
        return f"{value.__class__.__name__}({repr_of(vars(value))})"
    return repr(value)
