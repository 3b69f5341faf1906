"""Sure and loose pairs of an order, and the orders joined to it, counted and numbered."""

from gapswaps.errors import InvalidNumber
from gapswaps.lets import need_good
from gapswaps.masks import (
    between_mask, farthest_kept, first_behind, how_many_at, how_many_keep, is_kept, mask_of, next_behind, number_among,
    numbered_among, numbers_in, ones, sure_by,
)
from gapswaps.orders import is_count, is_order, need_count, need_order


def sure_masks(lets, order, bases=None):
    """Return, for each number, the masks of those that stand surely left and surely right of it: two lists.

    Where the order is the end of a longer one, all of whose other numbers stand where they are, bases tells, for each
    number, how many of those are less; None stands for none.
    """
    under = [0] * len(order) if bases is None else bases

    def may_change(one, other, ahead):
        return ones(between_mask(one, other) & ahead) + abs(under[one] - under[other]) in lets

    return sure_by(order, may_change)


def loose_masks(left, right):
    """Return, for each number, the mask of those with which it makes a loose pair."""
    whole = (1 << len(left)) - 1
    return [whole & ~(left[number] | right[number] | 1 << number) for number in range(len(left))]


def _need(lets, order):
    need_good(lets)
    need_order(order)


def _sure_left(lets, order):
    """Return, for each number of an order, the mask of those that stand surely left of it."""
    _need(lets, order)
    return sure_masks(lets, order)[0]


def sure_pairs(lets, order):
    """Return the list of the tuples of a number and one that it stands surely left of."""
    _need(lets, order)
    _, right = sure_masks(lets, order)
    return [(number, other) for number, mask in enumerate(right) for other in numbers_in(mask)]


def loose_pairs(lets, order):
    """Return the list of the loose pairs."""
    _need(lets, order)
    left, right = sure_masks(lets, order)
    loose = loose_masks(left, right)
    return [(low, high) for low, mask in enumerate(loose) for high in numbers_in(mask) if low < high]


def next_pairs(lets, order):
    """Return the list of those sure pairs between which no number surely stands."""
    after = next_behind(_sure_left(lets, order))
    return [(number, other) for number, others in enumerate(after) for other in others]


def keeps(lets, order, value):
    """Return whether a value is an order joined to an order."""
    left = _sure_left(lets, order)
    if not is_order(value) or len(value) != len(order):
        return False
    return is_kept(left, value)


def how_many_joined(lets, order):
    """Return how many orders are joined to an order."""
    return how_many_keep(_sure_left(lets, order))


def joined_number(lets, order):
    """Return how many of the orders joined to an order are ahead of it."""
    return number_among(_sure_left(lets, order), order)


def joined_numbered(lets, order, number):
    """Return the order joined to an order ahead of which just so many of these are."""
    left = _sure_left(lets, order)
    need_count(number)
    found = numbered_among(left, number)
    if found is None:
        raise InvalidNumber(number)
    return found


def next_joined(lets, order):
    """Return the first order joined to an order that is behind it, None if there is none."""
    left = _sure_left(lets, order)
    for at in reversed(range(len(order))):
        ahead = mask_of(order[:at])
        greater = [item for item in order[at + 1:] if item > order[at] and not left[item] & ~ahead]
        if greater:
            return first_behind(left, order[:at] + [min(greater)])
    return None


def _need_number(order, item):
    """Refuse what is no number of an order."""
    if not is_count(item) or item >= len(order):
        raise InvalidNumber(item)


def places_for(lets, order, item):
    """Return the least and the greatest place at which a number stands in orders joined to an order."""
    _need(lets, order)
    _need_number(order, item)
    left, right = sure_masks(lets, order)
    return (ones(left[item]), len(order) - 1 - ones(right[item]))


def _need_two(lets, order, one, other):
    _need(lets, order)
    _need_number(order, one)
    _need_number(order, other)
    if one == other:
        raise InvalidNumber(other)


def _may_touch(left, right, one, other):
    """Return whether no number surely stands between two, either way about."""
    return not (right[one] & left[other] or right[other] & left[one])


def can_touch(lets, order, one, other):
    """Return whether two numbers are neighbours in some order joined to an order."""
    _need_two(lets, order, one, other)
    left, right = sure_masks(lets, order)
    return _may_touch(left, right, one, other)


def changes(lets, order, one, other):
    """Return whether two numbers may change places where they are neighbours, None if they never are."""
    _need_two(lets, order, one, other)
    left, right = sure_masks(lets, order)
    if not _may_touch(left, right, one, other):
        return None
    return not (left[one] | right[one]) >> other & 1


def class_counts(lets, order):
    """Return the counts with which numbers of loose pairs are neighbours, and those of sure pairs: two lists."""
    _need(lets, order)
    left, right = sure_masks(lets, order)
    loose = loose_masks(left, right)
    used, shut = 0, 0
    for high in range(len(order)):
        for low in range(high):
            if _may_touch(left, right, low, high):
                between = between_mask(low, high)
                least = ones(between & (left[low] | left[high]))
                most = ones(between & ~(right[low] | right[high]))
                counts = (1 << (most + 1)) - (1 << least)
                if loose[low] >> high & 1:
                    used |= counts
                else:
                    shut |= counts
    return numbers_in(used), numbers_in(shut)


def how_many_far(lets, order, far):
    """Return how many orders joined to an order have a distance from it."""
    left = _sure_left(lets, order)
    need_count(far)
    return how_many_at(left, order, far)


def farthest(lets, order):
    """Return the greatest distance of orders joined to an order, and the first of them that has it."""
    return farthest_kept(_sure_left(lets, order), order)
