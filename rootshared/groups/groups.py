"""Closed groups, and what they say of whether the houses can agree."""

from rootshared.base.plain import check_index, check_undo, is_order
from rootshared.base.pools import check_pool
from rootshared.errors import InvalidOperation
from rootshared.groups.links import is_link, links_in, parts_by, parts_of


def common_roots(pool, indices):
    """The ascending tuple of the houses that are roots of all webs of the group."""
    check_pool(pool)
    return pool.part(indices).always


def is_closed(pool, indices):
    """Whether links within the group lead from each of its webs to each other one."""
    return len(parts_of(pool, indices)) == 1


def splitting(pool):
    """The tuple of levels, from the group of all webs to the greatest closed groups."""
    check_pool(pool)
    levels = [(tuple(range(len(pool))),)]
    later = split_level(pool, levels[0])
    while later != levels[-1]:
        levels.append(later)
        later = split_level(pool, later)
    return tuple(levels)


def split_level(pool, level):
    """The parts of all groups of a level, ascending."""
    return tuple(sorted([part for group in level for part in parts_of(pool, group)]))


def closed_groups(pool):
    """The greatest closed groups, ascending."""
    return splitting(pool)[-1]


def can_agree(pool):
    """Whether each greatest closed group has a common root."""
    return have_common_roots(pool, closed_groups(pool))


def have_common_roots(pool, groups):
    """Whether each of the groups has a common root."""
    return all([len(common_roots(pool, group)) > 0 for group in groups])


def obstacle(pool):
    """A paper of an obstacle: a closed group without a common root, and all links within it."""
    for group in closed_groups(pool):
        if len(common_roots(pool, group)) == 0:
            return group, links_in(pool, group)
    raise InvalidOperation("each closed group has a common root")


def is_obstacle(pool, value):
    """Whether the value is a paper of an obstacle."""
    check_pool(pool)
    if not isinstance(value, tuple) or len(value) != 2:
        return False
    group, links = value
    if not pool.is_group(group) or len(common_roots(pool, group)) > 0:
        return False
    return are_links_within(pool, group, links) and len(parts_by(group, links)) == 1


def are_links_within(pool, group, value):
    """Whether the value is an ascending tuple of links within the group."""
    if not isinstance(value, tuple) or not all([is_link(pool, link) for link in value]):
        return False
    inside = all([index in group for link in value for index in link])
    return inside and all([link < later for link, later in zip(value, value[1:])])


def agreement_paper(pool):
    """A paper that the houses can agree: the levels of the splitting."""
    levels = splitting(pool)
    if not have_common_roots(pool, levels[-1]):
        raise InvalidOperation("the houses cannot agree")
    return levels


def is_agreement_paper(pool, value):
    """Whether the value is a paper that the houses can agree."""
    check_pool(pool)
    if not isinstance(value, tuple) or not all([is_level(pool, level) for level in value]):
        return False
    if len(value) == 0 or len(value[0]) != 1 or not have_common_roots(pool, value[-1]):
        return False
    # Levels that are equal are let, and need not be looked at.
    return all([later == level or is_split(pool, level, later) for level, later in zip(value, value[1:])])


def is_level(pool, value):
    """Whether the value is an ascending tuple of groups with each web in just one of them."""
    if not isinstance(value, tuple) or not all([pool.is_group(group) for group in value]):
        return False
    webs = tuple([index for group in value for index in group])
    return is_order(webs, len(pool)) and list(value) == sorted(value)


def is_split(pool, level, later):
    """Whether the later level splits the groups of the level so that no link within one of them is cut."""
    for group in level:
        parts = [part for part in later if part[0] in group]
        # A part that goes beyond its group brings in webs from outside, and leaves them out in theirs.
        if sorted([index for part in parts for index in part]) != list(group):
            return False
        for one, other, _ in links_in(pool, group):
            if not any([one in part and other in part for part in parts]):
                return False
    return True


class Sieve:
    """The webs of a pool, which are barred and let again one by one."""

    def __init__(self, pool):
        check_pool(pool)
        self._pool = pool
        # The groups of the webs that were let, the one that are let now behind all others.
        self._trail = [tuple(range(len(pool)))]
        self._verdict = can_agree(pool)

    @property
    def pool(self):
        """The pool."""
        return self._pool

    @property
    def left(self):
        """The group of the webs that are let."""
        return self._trail[-1]

    @property
    def verdict(self):
        """Whether the houses can agree with the webs that are let."""
        return self._verdict

    def ban(self, index):
        """Bar a web, and tell whether the houses can agree then."""
        check_index(index, len(self._pool))
        if index not in self.left:
            raise InvalidOperation("the web is barred already")
        if len(self.left) == 1:
            raise InvalidOperation("the web is the last one that is let")
        self._trail.append(tuple([kept for kept in self.left if kept != index]))
        return self._judge()

    def let(self, index):
        """Let a web again, and tell whether the houses can agree then."""
        check_index(index, len(self._pool))
        if index in self.left:
            raise InvalidOperation("the web is let already")
        self._trail.append(tuple(sorted([*self.left, index])))
        return self._judge()

    def undo(self, *, many=1):
        """Take the last changes back, and tell whether the houses can agree then."""
        check_undo(many, len(self._trail) - 1)
        del self._trail[len(self._trail) - many:]
        return self._judge()

    def _judge(self):
        """Find out and keep whether the houses can agree now."""
        self._verdict = can_agree(self._pool.part(self.left))
        return self._verdict

    def twin(self):
        """An equal sieve with an equal past that goes on by itself."""
        made = Sieve(self._pool)
        made._trail = list(self._trail)
        made._verdict = self._verdict
        return made

    def __bool__(self):
        return bool(self._verdict)

    def __len__(self):
        return len(self.left)

    def __eq__(self, other):
        return isinstance(other, Sieve) and self._pool == other._pool and self.left == other.left

    def __str__(self):
        return f"sieve: {spaced(self.left)} of {len(self._pool)} webs"


def spaced(indices):
    """The indices with blanks between them."""
    return " ".join([str(index) for index in indices])
