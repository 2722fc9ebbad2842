"""Words: the webs of a run, round by round, and what the houses know behind them."""

from rootshared.base.plain import check_between, check_index, check_undo, is_index, is_index_tuple
from rootshared.base.pools import check_pool, houses_in_all
from rootshared.base.webs import web_where
from rootshared.errors import InvalidOperation, InvalidWord, TooMany

MAX_ROUNDS = 12


def is_word(pool, value):
    """Whether the value is a word of the pool with at most 12 webs."""
    check_pool(pool)
    return is_index_tuple(value, len(pool)) and len(value) <= MAX_ROUNDS


def check_word(pool, value):
    """Refuse what is no word of the pool with at most 12 webs."""
    if not is_word(pool, value):
        raise InvalidWord("no tuple of at most 12 indices of webs")


def check_rounds(value):
    """Refuse what is no number of rounds from 0 to 12."""
    check_between(value, 0, MAX_ROUNDS)


def check_few_words(pool, rounds, limit):
    """Refuse so many rounds if the pool has more words of them than the limit."""
    words = 1
    for _ in range(rounds):
        words = words * len(pool)
    if words > limit:
        raise TooMany(limit)


def all_words(pool, rounds):
    """All words of so many rounds, ascending."""
    check_pool(pool)
    check_rounds(rounds)
    word = (0,) * rounds
    while word is not None:
        yield word
        word = word_behind(word, len(pool))


def word_behind(word, many):
    """The word of so many webs that comes next in ascending order, or None behind the last one."""
    kept = list(word)
    while kept and kept[-1] == many - 1:
        kept.pop()
    if not kept:
        return None
    kept[-1] += 1
    return tuple(kept) + (0,) * (len(word) - len(kept))


def known_inputs(pool, word):
    """For each house the ascending tuple of the houses whose inputs it knows behind the word."""
    check_pool(pool)
    check_word(pool, word)
    return known_behind(pool, word)


def known_first(size):
    """What is known behind no round."""
    return tuple([(house,) for house in range(size)])


def known_next(web, known):
    """What is known behind one more round, with this web."""
    rows = []
    for house in range(web.size):
        told = [source for teller in web.hears(house) for source in known[teller]]
        rows.append(tuple([source for source in range(web.size) if source in told]))
    return tuple(rows)


def known_behind(pool, word):
    """What is known behind the word, which is one."""
    known = known_first(pool.size)
    for index in word:
        known = known_next(pool[index], known)
    return known


def heard_by_all(pool, word):
    """The ascending tuple of the houses that are heard by all behind the word."""
    known = known_inputs(pool, word)
    return houses_in_all(pool.size, known)


def product_web(pool, word):
    """The web in which each house hears those whose inputs it knows behind the word."""
    known = known_inputs(pool, word)
    return web_where(pool.size, lambda house, other: other in known[house])


def first_round(pool, word, house):
    """The least number of rounds of the word behind which the house is heard by all, or None."""
    check_pool(pool)
    check_word(pool, word)
    check_index(house, pool.size)
    for rounds in range(len(word) + 1):
        if house in heard_by_all(pool, word[:rounds]):
            return rounds
    return None


def informed(web, houses):
    """The ascending tuple of the houses that know behind a round what these houses knew ahead of it."""
    return tuple([house for house in range(web.size) if any([source in houses for source in web.hears(house)])])


def latest(pool, house):
    """The least number of rounds behind which the house is heard by all, whatever webs come, or None."""
    check_pool(pool)
    check_index(house, pool.size)
    # Only what a root knows spreads further with each web, until all know it.
    if house not in pool.always:
        return None
    rounds = 0
    knowing = [(house,)]
    while any([len(houses) < pool.size for houses in knowing]):
        # As a dict it has each tuple of houses once.
        later = {informed(web, houses): True for houses in knowing for web in pool}
        knowing = list(later)
        rounds += 1
    return rounds


def stall(pool, house):
    """A pair of a word behind which not all know the input of the house, and a web with which nobody more does."""
    check_pool(pool)
    check_index(house, pool.size)
    for index, web in enumerate(pool):
        if house not in web.roots:
            return (index,) * rounds_of_spreading(web, house), index
    raise InvalidOperation("the house is a root of all webs")


def rounds_of_spreading(web, house):
    """The number of rounds with this web behind which nobody more comes to know the input of the house."""
    rounds = 0
    knowing = (house,)
    while informed(web, knowing) != knowing:
        knowing = informed(web, knowing)
        rounds += 1
    return rounds


def is_stall(pool, house, value):
    """Whether the value is such a pair as of `stall`."""
    check_pool(pool)
    check_index(house, pool.size)
    if not isinstance(value, tuple) or len(value) != 2:
        return False
    word, index = value
    if not is_word(pool, word) or not is_index(index, len(pool)):
        return False
    knowing = (house,)
    for came in word:
        knowing = informed(pool[came], knowing)
    return len(knowing) < pool.size and informed(pool[index], knowing) == knowing


class Hearsay:
    """What the houses know, round by round."""

    def __init__(self, pool):
        check_pool(pool)
        self._pool = pool
        self._word = ()
        # What was known behind each number of rounds, from 0 to the present one.
        self._trail = [known_first(pool.size)]

    @property
    def pool(self):
        """The pool."""
        return self._pool

    @property
    def word(self):
        """The webs that came."""
        return self._word

    @property
    def known(self):
        """For each house the ascending tuple of the houses whose inputs it knows now."""
        return self._trail[-1]

    @property
    def heralds(self):
        """The ascending tuple of the houses that are heard by all now."""
        return houses_in_all(self._pool.size, self.known)

    def go(self, index):
        """Let a round go by with a web, and tell the pairs (house, other) of which the first knows of the other now."""
        check_index(index, len(self._pool))
        if len(self._word) >= MAX_ROUNDS:
            raise TooMany(MAX_ROUNDS)
        before = self.known
        after = known_next(self._pool[index], before)
        self._word = (*self._word, index)
        self._trail.append(after)
        return tuple([(house, other) for house, row in enumerate(after) for other in row if other not in before[house]])

    def undo(self, *, many=1):
        """Take the last rounds back, and tell their webs, the last one first."""
        check_undo(many, len(self._word))
        kept = len(self._word) - many
        taken = self._word[kept:]
        self._word = self._word[:kept]
        del self._trail[kept + 1:]
        return taken[::-1]

    def twin(self):
        """An equal one that goes on by itself."""
        made = Hearsay(self._pool)
        made._word = self._word
        made._trail = list(self._trail)
        return made

    def __len__(self):
        return len(self._word)

    def __eq__(self, other):
        return isinstance(other, Hearsay) and self._pool == other._pool and self._word == other._word

    def __str__(self):
        return f"hearsay: {len(self._word)} rounds on {self._pool.size} houses"
