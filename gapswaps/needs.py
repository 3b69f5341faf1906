"""What two orders need: the counts that every good set has that joins them."""

from gapswaps.errors import InvalidNumber, InvalidPairs
from gapswaps.lets import Lets, both, first_apart, least_good, need_good
from gapswaps.masks import ahead_masks, between_mask, mask_of, numbers_in, ones, right_masks
from gapswaps.orders import is_count, is_order, need_order
from gapswaps.ways import unlike_pairs

MOST_PAIRS = 20
LONGEST_TOLD = 60


def pair_counts(one, other):
    """Return, for each unlike pair of two orders, its numbers and the least and the greatest count that it needs."""
    pairs = unlike_pairs(one, other)
    left = [mask & more for mask, more in zip(ahead_masks(one), ahead_masks(other))]
    right = right_masks(left)
    found = []
    for x, y in pairs:
        between = between_mask(x, y)
        low = ones(between & (left[x] | left[y]))
        found.append((x, y, low, ones(between & ~(right[x] | right[y]))))
    return found


def _counts_from(low, high):
    """Return the mask of the counts from one to another."""
    return (1 << (high + 1)) - (1 << low)


def needed(one, other):
    """Return the list of all counts that some unlike pair of two orders needs."""
    found = 0
    for _, _, low, high in pair_counts(one, other):
        found |= _counts_from(low, high)
    return numbers_in(found)


def _is_told_pair(value):
    """Return whether a value is a tuple of two equally long orders that are not too long."""
    if not isinstance(value, tuple) or len(value) != 2 or not all([is_order(order) for order in value]):
        return False
    return len(value[0]) == len(value[1]) <= LONGEST_TOLD


def _need_pairs(pairs):
    """Refuse what are no told pairs."""
    if not isinstance(pairs, list) or len(pairs) > MOST_PAIRS or not all([_is_told_pair(pair) for pair in pairs]):
        raise InvalidPairs(pairs)


def least_joining(pairs):
    """Return the good set that joins the two orders of each pair and is within all others, None if there is none."""
    _need_pairs(pairs)
    counts = 0
    for one, other in pairs:
        counts |= mask_of(needed(one, other))
    return None if counts & 1 else least_good(Lets(numbers_in(counts)))


def _has_all(lets, counts):
    """Return whether all counts of a list are in a set."""
    return all([count in lets for count in counts])


def follows(pairs, one, other):
    """Return whether every good set that joins the orders of all pairs joins two orders, too."""
    least = least_joining(pairs)
    counts = needed(one, other)
    return least is None or _has_all(least, counts)


def fitting(joined, parted):
    """Return the good set that joins some pairs, and none of others, and is within all others, None if none does."""
    _need_pairs(joined)
    _need_pairs(parted)
    least = least_joining(joined)
    if least is None or any([_has_all(least, needed(one, other)) for one, other in parted]):
        return None
    return least


def joins_more(one, other):
    """Return two shortest orders that one good set joins and another one does not, None if there are none."""
    need_good(one)
    need_good(other)
    count = first_apart(one, both(one, other))
    if count is None:
        return None
    ahead = list(range(1, count + 1))
    return (ahead + [0, count + 1], ahead + [count + 1, 0])


def _need_number_from(order, low, number):
    """Refuse what is no number of an order, or less than another one."""
    if not is_count(number) or not low <= number < len(order):
        raise InvalidNumber(number)


def stretch(order, low, high):
    """Return the order of the numbers from one to another, as they stand, each lessened by the first."""
    need_order(order)
    _need_number_from(order, 0, low)
    _need_number_from(order, low, high)
    return [item - low for item in order if low <= item <= high]


def core(lets, one, other):
    """Return the numbers of the nearest, and then least, pair whose stretches are not joined, None if all are."""
    need_good(lets)
    counts = pair_counts(one, other)
    allowed = mask_of([count for count in range(len(one)) if count in lets])
    short = [(y - x, x) for x, y, low, high in counts if _counts_from(low, high) & ~allowed]
    if not short:
        return None
    size, low = min(short)
    return (low, low + size)
