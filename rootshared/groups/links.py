"""Links: two webs of a pool that are alike for a third one."""

from rootshared.base.plain import is_index_tuple, is_plain_integer
from rootshared.base.pools import check_group, check_pool
from rootshared.base.webs import Web, check_web
from rootshared.errors import InvalidNumber, InvalidOperation, InvalidWeb


def alike(one, other, third):
    """Whether each root of the third web, which must have one, hears the same houses in the first two."""
    if not isinstance(one, Web):
        raise InvalidWeb("no web")
    check_web(other, one.size)
    check_web(third, one.size)
    return len(third.roots) > 0 and all([one.heard[root] == other.heard[root] for root in third.roots])


def links_in(pool, indices):
    """The ascending tuple of all links within the group."""
    check_pool(pool)
    check_group(pool, indices)
    triples = [(one, other, third) for one in indices for other in indices for third in indices if one < other]
    return tuple([triple for triple in triples if is_link(pool, triple)])


def is_link(pool, value):
    """Whether the value is a link of the pool."""
    check_pool(pool)
    if not is_index_tuple(value, len(pool)) or len(value) != 3:
        return False
    one, other, third = value
    return one < other and alike(pool[one], pool[other], pool[third])


def parts_of(pool, indices):
    """The group split to connected parts."""
    return parts_by(indices, links_in(pool, indices))


def parts_by(indices, links):
    """The group split so that the links lead from each web of a part to each other one, and to no other part."""
    parts = [(index,) for index in indices]
    for one, other, _ in links:
        met = [part for part in parts if one in part or other in part]
        apart = [part for part in parts if part not in met]
        parts = [*apart, tuple(sorted([index for part in met for index in part]))]
    return tuple(sorted(parts))


def linked_way(pool, indices, one, other):
    """A way within the group from a web to another one, on which no web comes twice at an even place."""
    check_pool(pool)
    check_group(pool, indices)
    check_member(indices, one)
    check_member(indices, other)
    ways = ways_from(one, links_in(pool, indices))
    if other not in ways:
        raise InvalidOperation("no way leads there within the group")
    return ways[other]


def check_member(indices, index):
    """Refuse what is no integer of the group."""
    if not is_plain_integer(index) or index not in indices:
        raise InvalidNumber(index)


def ways_from(start, links):
    """A dict from the webs to which links lead from the start to a way to each of them."""
    steps = [*links, *[(other, one, third) for one, other, third in links]]
    ways = {start: (start,)}
    before = 0
    while before < len(ways):
        before = len(ways)
        for one, other, third in steps:
            if one in ways and other not in ways:
                ways[other] = (*ways[one], third, other)
    return ways


def is_linked_way(pool, indices, value):
    """Whether the value is a way within the group, from whatever web to whatever web."""
    check_pool(pool)
    check_group(pool, indices)
    if not is_index_tuple(value, len(pool)) or len(value) % 2 == 0:
        return False
    steps = list(zip(value[::2], value[1::2], value[2::2]))
    inside = all([index in indices for index in value])
    return inside and all([alike(pool[one], pool[other], pool[third]) for one, third, other in steps])
