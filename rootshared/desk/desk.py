"""Desks: pools by names, and pins that hold at all times."""

from rootshared.base.plain import check_undo, is_between
from rootshared.base.pools import check_pool
from rootshared.errors import InvalidName, InvalidOperation, Refused, TooMany, UnknownName
from rootshared.groups.groups import can_agree
from rootshared.pools.families import merged_pool
from rootshared.words.lots import least_rounds

MAX_POOLS = 8
MAX_PINS = 8
# The greatest number of rounds that is a grade, and that a pin can tell.
MOST_GRADED = 3
LETTERS = "abcdefghijklmnopqrstuvwxyz"
LONGEST_NAME = 8
# The methods that make changes, with how many arguments they take.
CHANGES = {"enter": 2, "remove": 1, "add_web": 2, "strike_web": 2, "merge": 3, "pin": 1, "unpin": 1}


class Desk:
    """Pools by names, with pins that hold at all times."""

    def __init__(self):
        # Both are dicts from names, ascending. They are exchanged as a whole, never changed.
        self._pools = {}
        self._grades = {}
        self._pins = ()
        # What was there ahead of each change, and what was there ahead of each that is taken back.
        self._past = []
        self._undone = []

    @property
    def pools(self):
        """A dict from the names to the pools."""
        return {name: pool for name, pool in self._pools.items()}

    @property
    def grades(self):
        """A dict from the names to the grades of the pools."""
        return {name: grade for name, grade in self._grades.items()}

    @property
    def pins(self):
        """The pins, in the order in which they were pinned."""
        return self._pins

    def enter(self, name, pool):
        """Add or replace a pool, and tell the news."""
        check_name(name)
        check_pool(pool)
        return self._put(name, pool)

    def remove(self, name):
        """Take a pool away, and tell the news."""
        self._check_known(name)
        return self._change({other: pool for other, pool in self._pools.items() if other != name}, self._pins)

    def add_web(self, name, web):
        """Put a web behind those of a pool, and tell the news."""
        self._check_known(name)
        return self._put(name, self._pools[name].with_web(web))

    def strike_web(self, name, index):
        """Take away one of the webs of a pool, and tell the news."""
        self._check_known(name)
        return self._put(name, self._pools[name].without(index))

    def merge(self, name, one, other):
        """Enter the pool of the webs of two pools, and tell the news."""
        check_name(name)
        self._check_known(one)
        self._check_known(other)
        return self._put(name, merged_pool(self._pools[one], self._pools[other]))

    def pin(self, pin):
        """Add a pin."""
        if not is_pin(pin, self._pools) or pin in self._pins:
            raise InvalidOperation("no pin about names that are there, or there already")
        if len(self._pins) >= MAX_PINS:
            raise TooMany(MAX_PINS)
        return self._change(self._pools, (*self._pins, pin))

    def unpin(self, pin):
        """Take a pin away."""
        if not is_pin(pin, self._pools) or pin not in self._pins:
            raise InvalidOperation("no pin that is there")
        return self._change(self._pools, tuple([kept for kept in self._pins if kept != pin]))

    def trial(self, *changes):
        """Tell what changes one behind the other would return, without effect."""
        if not all([is_change(change) for change in changes]):
            raise InvalidOperation("no tuple of the name of a change and its arguments")
        twin = self.twin()
        told = []
        for change in changes:
            told.append(made_change(twin, change))
        return tuple(told)

    def undo(self, *, many=1):
        """Take the last changes back, and tell the news."""
        check_undo(many, len(self._past))
        return self._go_along(self._past, self._undone, many)

    def redo(self, *, many=1):
        """Make again the changes that were taken back last, and tell the news."""
        check_undo(many, len(self._undone))
        return self._go_along(self._undone, self._past, many)

    def twin(self):
        """An equal desk with equal histories that goes on by itself."""
        made = Desk()
        made._place(self._present())
        made._past = list(self._past)
        made._undone = list(self._undone)
        return made

    def _check_known(self, name):
        """Refuse what is no name of a pool."""
        if name not in self:
            raise UnknownName(name)

    def _put(self, name, pool):
        """Have the pool by this name, and tell the news."""
        pools = {**self._pools, name: pool}
        return self._change({other: pools[other] for other in sorted(list(pools))}, self._pins)

    def _change(self, pools, pins):
        """Have these pools and pins, if nothing stands against it, and tell the news."""
        if not all([is_pin(pin, pools) for pin in pins]):
            raise InvalidOperation("a pin would be about a name that is not there")
        if len(pools) > MAX_POOLS:
            raise TooMany(MAX_POOLS)
        grades = {name: self._grade(name, pool) for name, pool in pools.items()}
        for pin in pins:
            if not is_held(pin, pools, grades):
                raise Refused(pin)
        before = self._grades
        self._past.append(self._present())
        self._undone = []
        self._place((pools, grades, pins))
        return news_between(before, grades)

    def _grade(self, name, pool):
        """The grade of a pool that has the name, or gets it."""
        if self._pools.get(name) == pool:
            return self._grades[name]
        return grade_of(pool)

    def _present(self):
        """What is there now, as histories keep it."""
        return self._pools, self._grades, self._pins

    def _place(self, kept):
        """Have what a history keeps."""
        self._pools, self._grades, self._pins = kept

    def _go_along(self, source, target, many):
        """Go so many steps along one history, so that the other one leads back, and tell the news."""
        before = self._grades
        for _ in range(many):
            target.append(self._present())
            self._place(source.pop())
        return news_between(before, self._grades)

    def __getitem__(self, name):
        self._check_known(name)
        return self._pools[name]

    def __contains__(self, value):
        return isinstance(value, str) and value in self._pools

    def __iter__(self):
        return iter(self._pools)

    def __len__(self):
        return len(self._pools)

    def __eq__(self, other):
        return isinstance(other, Desk) and self._pools == other._pools and self._pins == other._pins

    def __str__(self):
        return f"desk of {len(self._pools)} pools, {len(self._pins)} pins"


def is_name(value):
    """Whether the value is a name of one to eight letters."""
    if not isinstance(value, str) or not 1 <= len(value) <= LONGEST_NAME:
        return False
    return all([sign in LETTERS for sign in value])


def check_name(value):
    """Refuse what is no name."""
    if not is_name(value):
        raise InvalidName("no name of one to eight letters")


def grade_of(pool):
    """The grade of the pool."""
    if not can_agree(pool):
        return "never"
    least = least_rounds(pool, most=MOST_GRADED)
    if least is None:
        return "later"
    return least


def news_between(old, new):
    """The ascending tuple of tuples (name, old, new) of the names whose grades are other ones than before."""
    names = sorted(list({**old, **new}))
    return tuple([(name, old.get(name), new.get(name)) for name in names if old.get(name) != new.get(name)])


def is_pin(value, pools):
    """Whether the value is a pin about names that are there."""
    if not isinstance(value, tuple) or len(value) not in (2, 3):
        return False
    if not isinstance(value[1], str) or value[1] not in pools:
        return False
    if len(value) == 2:
        return value[0] == "able" or value[0] == "never"
    if value[0] == "within":
        return is_between(value[2], 0, MOST_GRADED)
    return value[0] == "part" and isinstance(value[2], str) and value[2] in pools and value[1] != value[2]


def is_held(pin, pools, grades):
    """Whether the pin holds with these pools and grades."""
    grade = grades[pin[1]]
    if pin[0] == "within":
        return isinstance(grade, int) and grade <= pin[2]
    if pin[0] == "part":
        return all([web in pools[pin[2]] for web in pools[pin[1]]])
    return (grade == "never") == (pin[0] == "never")


def is_change(value):
    """Whether the value is a tuple of the name of a method that makes a change, and of its arguments."""
    if not isinstance(value, tuple) or len(value) == 0 or not isinstance(value[0], str):
        return False
    return len(value) - 1 == CHANGES.get(value[0])


def made_change(desk, change):
    """What the change of the desk returns."""
    name, *given = change
    if name == "enter":
        return desk.enter(*given)
    if name == "remove":
        return desk.remove(given[0])
    if name == "add_web":
        return desk.add_web(*given)
    if name == "strike_web":
        return desk.strike_web(*given)
    if name == "merge":
        return desk.merge(*given)
    if name == "pin":
        return desk.pin(*given)
    return desk.unpin(*given)
