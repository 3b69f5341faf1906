"""Shortest ways from one order to another one, and the orders between them."""

from gapswaps.errors import InvalidNumber, InvalidPairs, Unlike
from gapswaps.lines import bounds, marked
from gapswaps.masks import ahead_masks, how_many_at, how_many_keep, is_kept, numbered_among, picked
from gapswaps.orders import is_count, is_order, need_count, need_orders_alike, places_of
from gapswaps.travel import joined_orders


def _unlike(one, other):
    """Return the pairs of two orders of one length that stand otherwise in both."""
    ones_at, others_at = places_of(one), places_of(other)
    found = []
    for low in range(len(one)):
        for high in range(low + 1, len(one)):
            if (ones_at[low] < ones_at[high]) != (others_at[low] < others_at[high]):
                found.append((low, high))
    return found


def unlike_pairs(one, other):
    """Return the list of the pairs of two orders that stand otherwise in both."""
    need_orders_alike(one, other)
    return _unlike(one, other)


def _need(lets, one, other):
    """Refuse what are no two joined orders of one length."""
    if not joined_orders(lets, one, other):
        raise Unlike(other)


def distance(lets, one, other):
    """Return how many deeds a shortest way from one order to another one has."""
    _need(lets, one, other)
    return len(_unlike(one, other))


def _word(one, other):
    """Return, for each item of an order, where it stands in another one: a shortest way sorts this."""
    places = places_of(other)
    return tuple([places[item] for item in one])


def _falls(word):
    """Return the places at which an item of a word is greater than the next one."""
    return [at for at in range(len(word) - 1) if word[at] > word[at + 1]]


def next_places(lets, one, other):
    """Return the list of the places with which shortest ways begin."""
    _need(lets, one, other)
    return _falls(_word(one, other))


def _kept(one, other):
    """Return, for each number, the mask of those that stand left of it in both of two orders."""
    return [mask & more for mask, more in zip(ahead_masks(one), ahead_masks(other))]


def stands_between(lets, one, other, value):
    """Return whether a value is an order that stands on a shortest way from one order to another one."""
    _need(lets, one, other)
    if not is_order(value) or len(value) != len(one):
        return False
    return is_kept(_kept(one, other), value)


def how_many_between(lets, one, other):
    """Return how many orders stand on shortest ways from one order to another one."""
    _need(lets, one, other)
    return how_many_keep(_kept(one, other))


def between_numbered(lets, one, other, number):
    """Return the order between two orders ahead of which just so many of these are."""
    _need(lets, one, other)
    need_count(number)
    found = numbered_among(_kept(one, other), number)
    if found is None:
        raise InvalidNumber(number)
    return found


def how_many_between_at(lets, one, other, far):
    """Return how many of the orders between two orders have a distance from the first one."""
    _need(lets, one, other)
    need_count(far)
    return how_many_at(_kept(one, other), one, far)


def _sorted_at(word, at):
    """Return a word in which the item at a place and the next one have changed places."""
    return word[:at] + (word[at + 1], word[at]) + word[at + 2:]


def _ways_from(start):
    """Return, for each word on a way that sorts a word, in how many ways it is sorted from there."""
    found = [start]
    seen = {start: True}
    # found grows while it is gone through, so this counts instead of iterating.
    at = 0
    while at < len(found):
        word = found[at]
        at += 1
        for place in _falls(word):
            after = _sorted_at(word, place)
            if after not in seen:
                seen[after] = True
                found.append(after)
    counts = {}
    for word in reversed(found):
        falls = _falls(word)
        counts[word] = sum([counts[_sorted_at(word, place)] for place in falls]) if falls else 1
    return counts


def how_many_ways(lets, one, other):
    """Return how many shortest ways lead from one order to another one."""
    _need(lets, one, other)
    start = _word(one, other)
    return _ways_from(start)[start]


def way_numbered(lets, one, other, number):
    """Return the shortest way ahead of which just so many are."""
    _need(lets, one, other)
    need_count(number)
    word = _word(one, other)
    counts = _ways_from(word)
    if number >= counts[word]:
        raise InvalidNumber(number)
    found = []
    rest = number
    while _falls(word):
        places = _falls(word)
        at, rest = picked([counts[_sorted_at(word, place)] for place in places], rest)
        found.append(places[at])
        word = _sorted_at(word, places[at])
    return found


def _words_along(word, value):
    """Return the words ahead of each deed of a shortest way that sorts a word, None if a value is no such way."""
    if not isinstance(value, list):
        return None
    found = []
    after = word
    for item in value:
        if not is_count(item) or item not in _falls(after):
            return None
        found.append(after)
        after = _sorted_at(after, item)
    return None if _falls(after) else found


def way_number(lets, one, other, value):
    """Return how many shortest ways are ahead of a value, None if it is no shortest way."""
    _need(lets, one, other)
    word = _word(one, other)
    along = _words_along(word, value)
    if along is None:
        return None
    counts = _ways_from(word)
    found = 0
    for passed, item in zip(along, value):
        found += sum([counts[_sorted_at(passed, place)] for place in _falls(passed) if place < item])
    return found


def _is_turned(kept, value):
    """Return whether a value is a pair of numbers neither of which stands left of the other in both orders."""
    if not isinstance(value, tuple) or len(value) != 2 or not all([is_count(item) for item in value]):
        return False
    low, high = value
    return low < high < len(kept) and not (kept[low] >> high & 1 or kept[high] >> low & 1)


def _as_in(order, pair):
    """Return the two numbers of a pair as they stand in an order."""
    low, high = pair
    return (low, high) if order.index(low) < order.index(high) else (high, low)


def turned_first(lets, one, other, first, second):
    """Return whether one pair is turned ahead of another one on every shortest way."""
    _need(lets, one, other)
    kept = _kept(one, other)
    if not _is_turned(kept, first):
        raise InvalidPairs(first)
    if not _is_turned(kept, second) or second == first:
        raise InvalidPairs(second)
    # Some order between has only the second pair turned unless what it keeps and these two tell make a ring.
    left, right = _as_in(one, first)
    ahead, behind = _as_in(other, second)
    return all([low == high or kept[high] >> low & 1 == 1 for low, high in ((right, ahead), (behind, left))])


def farthest_two(lets, order):
    """Return the two orders joined to an order that have all marks least, and all marks greatest."""
    limits = bounds(lets, order)
    least = [[low for low, _ in piece] for piece in limits]
    greatest = [[high for _, high in piece] for piece in limits]
    return marked(lets, order, least), marked(lets, order, greatest)
