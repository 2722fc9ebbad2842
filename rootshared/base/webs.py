"""Webs: who hears whom in a round."""

from rootshared.base.plain import check_between, check_index, is_ascending, is_index_tuple, is_order
from rootshared.errors import InvalidOperation, InvalidWeb

# The interface has this number as MAX_HOUSES in pools.py, which imports from here.
MOST_HOUSES = 5


class Web:
    """A web of 1 to 5 houses, which never changes.

    `heard` has for each house the ascending tuple of the other houses that it hears.
    """

    def __init__(self, heard):
        if not is_heard(heard):
            raise InvalidWeb("no tuple with an ascending tuple of other houses for each of 1 to 5 houses")
        self._heard = heard
        self._size = len(heard)
        self._reached = tuple([reached_from(heard, house) for house in range(len(heard))])
        self._roots = tuple([house for house, far in enumerate(self._reached) if len(far) == len(heard)])
        self._parts = mutual_parts(self._reached)

    @property
    def heard(self):
        """For each house the ascending tuple of the other houses that it hears."""
        return self._heard

    @property
    def size(self):
        """The number of houses."""
        return self._size

    @property
    def roots(self):
        """The ascending tuple of the houses from which ways lead to all houses."""
        return self._roots

    @property
    def parts(self):
        """The ascending tuple of the largest groups of houses among which ways lead from each to each."""
        return self._parts

    def hears(self, house):
        """The ascending tuple of the houses that the house hears, itself included."""
        check_index(house, self._size)
        return tuple(sorted([*self._heard[house], house]))

    def reached(self, house):
        """The ascending tuple of the houses to which ways lead from the house, itself included."""
        check_index(house, self._size)
        return self._reached[house]

    def with_hearing(self, house, other):
        """The web in which the house hears the other one too."""
        check_index(house, self._size)
        check_index(other, self._size)
        if house == other or other in self._heard[house]:
            raise InvalidOperation("the house hears the other one already")
        return self._with_row(house, tuple(sorted([*self._heard[house], other])))

    def without_hearing(self, house, other):
        """The web in which the house does not hear the other one."""
        check_index(house, self._size)
        check_index(other, self._size)
        if other not in self._heard[house]:
            raise InvalidOperation("the house does not hear the other one, or always does, being the same")
        return self._with_row(house, tuple([kept for kept in self._heard[house] if kept != other]))

    def _with_row(self, house, row):
        """The web in which the house hears the others of the row instead."""
        rows = list(self._heard)
        rows[house] = row
        return Web(tuple(rows))

    def joined(self, other):
        """The web in which each house hears whom it hears in one of both."""
        check_web(other, self._size)
        mine, theirs = self._heard, other.heard
        return web_where(self._size, lambda house, source: source in mine[house] or source in theirs[house])

    def shared(self, other):
        """The web in which each house hears whom it hears in both."""
        check_web(other, self._size)
        mine, theirs = self._heard, other.heard
        return web_where(self._size, lambda house, source: source in mine[house] and source in theirs[house])

    def then(self, other):
        """The web of whom each house hears, directly or told, in a round with this web and one with the other."""
        check_web(other, self._size)
        rows = []
        for house in range(self._size):
            told = [source for teller in other.hears(house) for source in self.hears(teller)]
            rows.append(tuple([source for source in range(self._size) if source in told and source != house]))
        return Web(tuple(rows))

    def is_within(self, other):
        """Whether each house hears in the other web whom it hears in this one."""
        check_web(other, self._size)
        return all([source in theirs for mine, theirs in zip(self._heard, other.heard) for source in mine])

    def renumbered(self, numbers):
        """The web with new numbers of the houses: house h gets the number numbers[h]."""
        if not is_order(numbers, self._size):
            raise InvalidOperation("no tuple with a new number for each house")
        heard = self._heard
        return web_where(self._size, lambda house, source: numbers.index(source) in heard[numbers.index(house)])

    def __contains__(self, value):
        """Whether the value is a pair (house, other) of which the first one hears the second one."""
        return is_index_tuple(value, self._size) and len(value) == 2 and value[1] in self._heard[value[0]]

    def __len__(self):
        """The number of pairs (house, other) of which the first one hears the second one."""
        return len([other for row in self._heard for other in row])

    def __eq__(self, other):
        return isinstance(other, Web) and self._heard == other._heard

    def __str__(self):
        return f"web of {self._size} houses: {hearing_text(self._heard)}"


def is_heard(value):
    """Whether the value tells for each of 1 to 5 houses whom of the others it hears."""
    if not isinstance(value, tuple) or not 1 <= len(value) <= MOST_HOUSES:
        return False
    return all([is_ascending(row, len(value)) and house not in row for house, row in enumerate(value)])


def is_web_of(value, size):
    """Whether the value is a web with so many houses."""
    return isinstance(value, Web) and value.size == size


def check_web(value, size):
    """Refuse what is no web with so many houses."""
    if not is_web_of(value, size):
        raise InvalidWeb("no web with so many houses")


def reached_from(heard, start):
    """The ascending tuple of the houses to which ways lead from the start, itself included."""
    found = [start]
    done = 0
    while done < len(found):
        later = [house for house, row in enumerate(heard) if found[done] in row and house not in found]
        found.extend(later)
        done += 1
    return tuple(sorted(found))


def mutual_parts(reached):
    """The largest groups of houses that reach one another, where `reached` tells whom each house reaches."""
    parts = []
    for house, far in enumerate(reached):
        part = tuple([other for other in far if house in reached[other]])
        # Each house of a part finds the same part; only its first one adds it.
        if part[0] == house:
            parts.append(part)
    return tuple(parts)


def hearing_text(heard):
    """Who hears whom, in words."""
    told = [f"{house} hears {other}" for house, row in enumerate(heard) for other in row]
    if not told:
        return "nobody hears"
    return ", ".join(told)


def web_where(size, rule):
    """The web in which a house hears another one exactly if rule(house, other) is true."""
    rows = []
    for house in range(size):
        rows.append(tuple([other for other in range(size) if other != house and rule(house, other)]))
    return Web(tuple(rows))


def silent_web(size):
    """The web in which nobody hears another one."""
    check_between(size, 1, MOST_HOUSES)
    return web_where(size, lambda house, other: False)


def full_web(size):
    """The web in which all hear all."""
    check_between(size, 1, MOST_HOUSES)
    return web_where(size, lambda house, other: True)


def star_web(size, center):
    """The web in which all hear the center, and nobody else."""
    check_between(size, 1, MOST_HOUSES)
    check_index(center, size)
    return web_where(size, lambda house, other: other == center)


def chain_web(size, first):
    """The web in which each house but the first one hears the one ahead of it; the last is ahead of house 0."""
    check_between(size, 1, MOST_HOUSES)
    check_index(first, size)
    return web_where(size, lambda house, other: house != first and other == (house - 1) % size)
