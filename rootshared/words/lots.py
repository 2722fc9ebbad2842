"""Lots of words, and agreeing in so many rounds."""

from rootshared.base.plain import check_between
from rootshared.base.pools import check_pool, houses_in_all
from rootshared.errors import InvalidOperation
from rootshared.groups.groups import can_agree
from rootshared.words.views import check_equal_lengths, equal_views, view_numbers
from rootshared.words.words import MAX_ROUNDS, check_few_words, check_rounds, check_word, heard_by_all, is_word

MAX_WORDS = 4096


def check_lots(pool, rounds):
    """Refuse what is no pool, no number of rounds, or too many rounds for the pool."""
    check_pool(pool)
    check_rounds(rounds)
    check_few_words(pool, rounds, MAX_WORDS)


def lots_of(pool, rounds):
    """The lots of the words of so many rounds, ascending, each an ascending tuple of words."""
    check_lots(pool, rounds)
    numbers = view_numbers(pool, rounds)
    sharing = words_by_view(numbers)
    lots = []
    placed = {}
    for word in numbers:
        if word not in placed:
            lot = tuple(sorted(list(words_from(word, numbers, sharing))))
            lots.append(lot)
            for other in lot:
                placed[other] = True
    return tuple(lots)


def words_by_view(numbers):
    """A dict from the pairs of a house and the number of a view of it to the words with this view."""
    sharing = {}
    for word, row in numbers.items():
        for view in enumerate(row):
            sharing.setdefault(view, []).append(word)
    return sharing


def words_from(start, numbers, sharing):
    """A dict from the words of the start's lot to the word ahead of each on a shortest row from the start."""
    ahead = {start: None}
    queue = [start]
    done = 0
    used = {}
    while done < len(queue):
        word = queue[done]
        for view in enumerate(numbers[word]):
            # All words with this view are found when it is met first.
            if view not in used:
                used[view] = True
                put_behind(word, sharing[view], ahead, queue)
        done += 1
    return ahead


def put_behind(one, others, ahead, queue):
    """Note the one as what stands ahead of those of the others that are new, and put these into the queue."""
    for other in others:
        if other not in ahead:
            ahead[other] = one
            queue.append(other)


def row_to(last, ahead):
    """The row that ends with the last one, where `ahead` tells what stands ahead of each, or None."""
    row = [last]
    while ahead[row[-1]] is not None:
        row.append(ahead[row[-1]])
    return row[::-1]


def lot_heralds(pool, rounds):
    """For each lot the ascending tuple of the houses that are heard by all behind each of its words."""
    lots = lots_of(pool, rounds)
    return tuple([common_heralds(pool, lot) for lot in lots])


def common_heralds(pool, words):
    """The ascending tuple of the houses that are heard by all behind each of the words."""
    return houses_in_all(pool.size, [heard_by_all(pool, word) for word in words])


def agree_in(pool, rounds):
    """Whether the houses can agree in so many rounds."""
    return () not in lot_heralds(pool, rounds)


def bar(pool, rounds):
    """A paper that the houses cannot agree in so many rounds: a shortest row of words that is one."""
    for lot in lots_of(pool, rounds):
        if len(common_heralds(pool, lot)) == 0:
            return shortest_bar(pool, lot, view_numbers(pool, rounds))
    raise InvalidOperation("the houses can agree in so many rounds")


def shortest_bar(pool, lot, numbers):
    """A shortest row of neighbours in the lot so that no house is heard by all behind each, of which there is one.

    It is searched among pairs of a word, and the houses that are heard by all behind each word of the row up to it.
    """
    heard = {word: heard_by_all(pool, word) for word in lot}
    sharing = words_by_view({word: numbers[word] for word in lot})
    ahead = {(word, heard[word]): None for word in lot}
    queue = list(ahead)
    done = 0
    used = {}
    while len(queue[done][1]) > 0:
        word, heralds = queue[done]
        for view in enumerate(numbers[word]):
            if (view, heralds) not in used:
                used[(view, heralds)] = True
                put_behind((word, heralds), pairs_behind(heralds, sharing[view], heard), ahead, queue)
        done += 1
    return tuple([word for word, _ in row_to(queue[done], ahead)])


def pairs_behind(heralds, words, heard):
    """For each word the pair of it and those of the heralds that are heard by all behind it, too."""
    return [(word, tuple([house for house in heralds if house in heard[word]])) for word in words]


def is_bar(pool, value):
    """Whether the value is a paper that the houses cannot agree in so many rounds as its words have."""
    check_pool(pool)
    if not isinstance(value, tuple) or not all([is_word(pool, word) for word in value]):
        return False
    if len(value) == 0 or not all([len(word) == len(value[0]) for word in value]):
        return False
    beside = [len(equal_views(pool, one, other)) > 0 for one, other in zip(value, value[1:])]
    return all(beside) and len(common_heralds(pool, value)) == 0


def least_rounds(pool, *, most=3):
    """The least number of rounds, up to the most, in which the houses can agree, or None."""
    check_pool(pool)
    check_between(most, 0, MAX_ROUNDS)
    if not can_agree(pool):
        return None
    for rounds in range(most + 1):
        if agree_in(pool, rounds):
            return rounds
    return None


def lot_way(pool, one, other):
    """A shortest row of neighbours in a lot from a word to another one, or None if they are not in one lot."""
    check_pool(pool)
    check_word(pool, one)
    check_word(pool, other)
    check_equal_lengths(one, other)
    check_few_words(pool, len(one), MAX_WORDS)
    numbers = view_numbers(pool, len(one))
    ahead = words_from(one, numbers, words_by_view(numbers))
    if other not in ahead:
        return None
    return tuple(row_to(other, ahead))
