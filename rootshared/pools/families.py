"""Parts of pools with which the houses can agree, pools made of others, and webs that are put together."""

from rootshared.base.plain import check_between, check_index, check_undo, is_order, rows_over
from rootshared.base.pools import MAX_HOUSES, MAX_WEBS, Pool, check_pool, check_pool_of
from rootshared.base.webs import Web, check_web
from rootshared.errors import InvalidOperation, Refused, TooMany
from rootshared.groups.groups import can_agree, closed_groups, obstacle


def all_groups(pool):
    """All groups of the pool, ascending."""
    choices = rows_over(len(pool), (False, True))
    rows = [tuple([index for index, chosen in enumerate(choice) if chosen]) for choice in choices]
    return sorted([row for row in rows if row])


def is_part(group, other):
    """Whether the group is within the other one, and not the same."""
    return len(group) < len(other) and all([index in other for index in group])


def agreeing_groups(pool):
    """The ascending tuple of all groups that agree."""
    check_pool(pool)
    return tuple([group for group in all_groups(pool) if can_agree(pool.part(group))])


def greatest_agreeing(pool):
    """The ascending tuple of the groups that agree and are within no other one that does."""
    agreeing = agreeing_groups(pool)
    return tuple([group for group in agreeing if not any([is_part(group, other) for other in agreeing])])


def least_failing(pool):
    """The ascending tuple of the groups that do not agree, though all others within them do."""
    agreeing = agreeing_groups(pool)
    failing = [group for group in all_groups(pool) if group not in agreeing]
    return tuple([group for group in failing if not any([is_part(other, group) for other in failing])])


def strikes(pool):
    """The ascending tuple of all ways to strike as few webs as possible so that the group of the others agrees."""
    agreeing = agreeing_groups(pool)
    if not agreeing:
        raise InvalidOperation("no group agrees")
    most = max([len(group) for group in agreeing])
    kept = [group for group in agreeing if len(group) == most]
    return tuple(sorted([tuple([index for index in range(len(pool)) if index not in group]) for group in kept]))


def pool_of_few(webs):
    """The pool of the webs, each once, in the order in which they come first."""
    kept = []
    for web in webs:
        if web not in kept:
            kept.append(web)
    if len(kept) > MAX_WEBS:
        raise TooMany(MAX_WEBS)
    return Pool(tuple(kept))


def product_pool(pool):
    """The pool of the webs of whom each house hears in two rounds with webs of the pool."""
    check_pool(pool)
    return pool_of_few([first.then(second) for first in pool for second in pool])


def merged_pool(one, other):
    """The pool of the webs of both."""
    check_pool(one)
    check_pool_of(other, one.size)
    return pool_of_few([*one.webs, *other.webs])


def twin_numbers(one, other):
    """A tuple with a new number for each house of the one pool by which its webs are those of the other, or None."""
    check_pool(one)
    check_pool(other)
    for numbers in all_orders(one.size):
        if is_twin(one, other, numbers):
            return numbers
    return None


def all_orders(many):
    """All tuples of so many numbers from 0 on, each once, ascending."""
    orders = [()]
    for _ in range(many):
        orders = [(*order, number) for order in orders for number in range(many) if number not in order]
    return orders


def is_twin(one, other, value):
    """Whether the value is a tuple with a new number for each house by which the webs are those of the other pool."""
    check_pool(one)
    check_pool(other)
    if not is_order(value, one.size) or one.size != other.size or len(one) != len(other):
        return False
    return all([web.renumbered(value) in other for web in one])


class Gathering:
    """Webs for so many houses, put together as long as the houses can agree."""

    def __init__(self, size):
        check_between(size, 1, MAX_HOUSES)
        self._size = size
        # The webs that were there ahead of each change, and at last those that are there now.
        self._trail = [()]
        self._groups = ()

    @property
    def size(self):
        """The number of houses."""
        return self._size

    @property
    def webs(self):
        """The webs, in the order in which they were put."""
        return self._trail[-1]

    @property
    def groups(self):
        """The greatest closed groups."""
        return self._groups

    def put(self, web):
        """Add a web, and tell the greatest closed groups then."""
        check_web(web, self._size)
        if web in self.webs:
            raise InvalidOperation("the web is there already")
        if len(self.webs) >= MAX_WEBS:
            raise TooMany(MAX_WEBS)
        webs = (*self.webs, web)
        if not can_agree(Pool(webs)):
            raise Refused(obstacle(Pool(webs)))
        self._trail.append(webs)
        return self._grouped()

    def drop(self, index):
        """Take a web away, and tell the greatest closed groups then."""
        check_index(index, len(self.webs))
        self._trail.append(self.webs[:index] + self.webs[index + 1:])
        return self._grouped()

    def undo(self, *, many=1):
        """Take the last changes back, and tell the greatest closed groups then."""
        check_undo(many, len(self._trail) - 1)
        del self._trail[len(self._trail) - many:]
        return self._grouped()

    def _grouped(self):
        """Find and keep the greatest closed groups of the webs that are there now."""
        self._groups = ()
        if self.webs:
            self._groups = closed_groups(Pool(self.webs))
        return self._groups

    def twin(self):
        """An equal one with an equal past that goes on by itself."""
        made = Gathering(self._size)
        made._trail = list(self._trail)
        made._groups = self._groups
        return made

    def __contains__(self, value):
        return isinstance(value, Web) and value in self.webs

    def __len__(self):
        return len(self.webs)

    def __eq__(self, other):
        return isinstance(other, Gathering) and self._size == other._size and self.webs == other.webs

    def __str__(self):
        return f"gathering of {len(self.webs)} webs on {self._size} houses"
