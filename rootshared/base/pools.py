"""Pools: the webs of which each round has one."""

from rootshared.base.plain import check_between, check_index, is_ascending, is_order
from rootshared.base.webs import Web, chain_web, check_web, full_web, star_web, web_where
from rootshared.errors import InvalidGroup, InvalidOperation, InvalidPool, InvalidWeb, TooMany

MAX_WEBS = 8
MAX_HOUSES = 5


class Pool:
    """A pool of 1 to 8 different webs on the same houses, which never changes."""

    def __init__(self, webs):
        if not are_pool_webs(webs):
            raise InvalidPool("no tuple of 1 to 8 different webs on the same houses")
        self._webs = webs
        self._size = webs[0].size
        self._roots = tuple([web.roots for web in webs])
        self._always = houses_in_all(self._size, self._roots)

    @property
    def webs(self):
        """The webs, in order."""
        return self._webs

    @property
    def size(self):
        """The number of houses."""
        return self._size

    @property
    def roots(self):
        """The tuple of the roots of each web."""
        return self._roots

    @property
    def always(self):
        """The ascending tuple of the houses that are roots of all webs."""
        return self._always

    def index_of(self, web):
        """The index of the web in the pool."""
        if not isinstance(web, Web):
            raise InvalidWeb("no web")
        if web not in self._webs:
            raise InvalidOperation("the web is none of the pool")
        return self._webs.index(web)

    def is_group(self, value):
        """Whether the value is an ascending tuple of one or more indices of webs."""
        return is_ascending(value, len(self._webs)) and len(value) > 0

    def with_web(self, web):
        """The pool with one more web, the last one."""
        check_web(web, self._size)
        if web in self._webs:
            raise InvalidOperation("the web is there already")
        if len(self._webs) >= MAX_WEBS:
            raise TooMany(MAX_WEBS)
        return Pool((*self._webs, web))

    def without(self, index):
        """The pool without one of its webs."""
        check_index(index, len(self._webs))
        if len(self._webs) == 1:
            raise InvalidOperation("the web is the only one")
        return Pool(self._webs[:index] + self._webs[index + 1:])

    def part(self, indices):
        """The pool of the webs of a group."""
        check_group(self, indices)
        return self._chosen(indices)

    def reordered(self, indices):
        """The pool with its webs in another order, which the tuple of all indices tells."""
        if not is_order(indices, len(self._webs)):
            raise InvalidOperation("no tuple of all indices of webs, each once")
        return self._chosen(indices)

    def _chosen(self, indices):
        """The pool of the webs with these indices, in this order."""
        return Pool(tuple([self._webs[index] for index in indices]))

    def renumbered(self, numbers):
        """The pool with new numbers of the houses: house h gets the number numbers[h]."""
        return Pool(tuple([web.renumbered(numbers) for web in self._webs]))

    def __getitem__(self, index):
        check_index(index, len(self._webs))
        return self._webs[index]

    def __contains__(self, value):
        return isinstance(value, Web) and value in self._webs

    def __iter__(self):
        return iter(self._webs)

    def __len__(self):
        return len(self._webs)

    def __eq__(self, other):
        return isinstance(other, Pool) and self._webs == other._webs

    def __str__(self):
        return f"pool of {len(self._webs)} webs on {self._size} houses"


def are_pool_webs(value):
    """Whether the value is a tuple of 1 to 8 different webs on the same houses."""
    if not isinstance(value, tuple) or not 1 <= len(value) <= MAX_WEBS:
        return False
    if not all([isinstance(web, Web) for web in value]):
        return False
    if not all([web.size == value[0].size for web in value]):
        return False
    return len(set([web.heard for web in value])) == len(value)


def check_pool(value):
    """Refuse what is no pool."""
    if not isinstance(value, Pool):
        raise InvalidPool("no pool")


def check_pool_of(value, size):
    """Refuse what is no pool on so many houses."""
    if not isinstance(value, Pool) or value.size != size:
        raise InvalidPool("no pool on so many houses")


def check_group(pool, indices):
    """Refuse what is no group of the pool."""
    if not pool.is_group(indices):
        raise InvalidGroup("no ascending tuple of one or more indices of webs")


def houses_in_all(size, rows):
    """The ascending tuple of the houses that are in all of the rows."""
    return tuple([house for house in range(size) if all([house in row for row in rows])])


def star_pool(size):
    """The pool of the stars around each house."""
    check_between(size, 2, MAX_HOUSES)
    return Pool(tuple([star_web(size, house) for house in range(size)]))


def chain_pool(size):
    """The pool of the chains that begin with each house."""
    check_between(size, 2, MAX_HOUSES)
    return Pool(tuple([chain_web(size, house) for house in range(size)]))


def muted_pool(size):
    """The pool of the full web, and of those in which one house is heard by nobody else."""
    check_between(size, 2, MAX_HOUSES)
    return Pool((full_web(size), *[muted_web(size, house) for house in range(size)]))


def muted_web(size, muted):
    """The web in which one house is heard by nobody else, and all else is heard."""
    return web_where(size, lambda house, other: other != muted)
