"""Views: all that a house knows behind a word, without inputs."""

from rootshared.base.plain import check_index
from rootshared.base.pools import check_pool
from rootshared.errors import InvalidOperation
from rootshared.words.words import check_few_words, check_rounds, check_word

# The interface has this number as MAX_WORDS in lots.py, which imports from here.
MOST_WORDS = 4096


def equal_views(pool, one, other):
    """The ascending tuple of the houses whose views behind both words are equal."""
    check_pool(pool)
    check_word(pool, one)
    check_word(pool, other)
    check_equal_lengths(one, other)
    return shared_views(pool, one, other)[-1]


def check_equal_lengths(one, other):
    """Refuse words of unlike lengths."""
    if len(one) != len(other):
        raise InvalidOperation("the words have unlike lengths")


def shared_views(pool, one, other):
    """The houses whose views behind both words are equal, for each number of rounds from 0 to all of them."""
    rows = [tuple(range(pool.size))]
    for first, second in zip(one, other):
        rows.append(still_shared(pool[first], pool[second], rows[-1]))
    return rows


def still_shared(one, other, shared):
    """Those of the houses whose views stay equal if a round has the one web here and the other one there."""
    kept = []
    for house in shared:
        heard = one.hears(house)
        if other.hears(house) == heard and all([source in shared for source in heard]):
            kept.append(house)
    return tuple(kept)


def first_difference(pool, one, other, house):
    """The least number of rounds behind which the house has unlike views, or None if they stay equal."""
    check_pool(pool)
    check_word(pool, one)
    check_word(pool, other)
    check_index(house, pool.size)
    check_equal_lengths(one, other)
    for rounds, shared in enumerate(shared_views(pool, one, other)):
        if house not in shared:
            return rounds
    return None


def view_numbers(pool, rounds):
    """A dict from all words of so many rounds to a tuple with the number of each house's view."""
    check_pool(pool)
    check_rounds(rounds)
    check_few_words(pool, rounds, MOST_WORDS)
    hearing = [[web.hears(house) for house in range(pool.size)] for web in pool]
    numbers = {(): (0,) * pool.size}
    for _ in range(rounds):
        numbers = numbers_next(hearing, numbers)
    return numbers


def numbers_next(hearing, numbers):
    """The numbers of views behind one more round, where `hearing` has whom each house hears in each web."""
    found = [{} for _ in hearing[0]]
    later = {}
    for word, told in numbers.items():
        for index, row in enumerate(hearing):
            views = [(heard, tuple([told[source] for source in heard])) for heard in row]
            later[word + (index,)] = tuple([number_of(view, found[house]) for house, view in enumerate(views)])
    return later


def number_of(view, known):
    """The number of a view of a house, which is the next one if it is not among those that are known so far."""
    if view not in known:
        known[view] = len(known)
    return known[view]


def view_counts(pool, rounds):
    """For each house how many different views it can have behind so many rounds."""
    rows = list(view_numbers(pool, rounds).values())
    return tuple([len(set([row[house] for row in rows])) for house in range(pool.size)])


def same_sight(pool, rounds, house, word):
    """The ascending tuple of all words of so many rounds with the same view of the house as behind the word."""
    check_pool(pool)
    check_rounds(rounds)
    check_index(house, pool.size)
    check_word(pool, word)
    if len(word) != rounds:
        raise InvalidOperation("the word has another length")
    numbers = view_numbers(pool, rounds)
    return tuple([other for other, row in numbers.items() if row[house] == numbers[word][house]])
