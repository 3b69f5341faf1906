"""Wanted pairs: orders joined to an order in which told numbers stand left of others."""

from gapswaps.errors import InvalidPairs
from gapswaps.lets import need_good
from gapswaps.masks import (
    ahead_masks, best_kept, closed_masks, first_behind, mask_of, nearest_kept, numbers_in,
)
from gapswaps.orders import is_count, need_order
from gapswaps.pairs import sure_masks

MOST_WISHES = 200


def _is_wish(order, value):
    """Return whether a value is a tuple of two different numbers of an order."""
    if not isinstance(value, tuple) or len(value) != 2:
        return False
    return all([is_count(item) and item < len(order) for item in value]) and value[0] != value[1]


def _need(lets, order, wishes):
    need_good(lets)
    need_order(order)
    if not isinstance(wishes, list) or len(wishes) > MOST_WISHES:
        raise InvalidPairs(wishes)
    if not all([_is_wish(order, wish) for wish in wishes]):
        raise InvalidPairs(wishes)


def _told_left(lets, order, wishes):
    """Return, for each number of an order, the mask of those that stand surely left of it or are wanted there."""
    _need(lets, order, wishes)
    left, _ = sure_masks(lets, order)
    for one, other in wishes:
        left[other] |= 1 << one
    return left


def granted(lets, order, wishes):
    """Return the first order joined to an order that grants all wishes, None if there is none."""
    found = first_behind(_told_left(lets, order, wishes), [])
    return found if len(found) == len(order) else None


def wish_ring(lets, order, wishes):
    """Return numbers each of which stands surely left of the next, or is wanted there, all round; None if none do."""
    left = _told_left(lets, order, wishes)
    placed = mask_of(first_behind(left, []))
    rest = [number for number in order if not placed >> number & 1]
    if not rest:
        return None
    # Each number that is left over stands right of another such one: so a walk leftwards comes round at last.
    trail, number = [], rest[0]
    while number not in trail:
        trail.append(number)
        number = numbers_in(left[number] & ~placed)[0]
    ring = trail[trail.index(number):]
    return ring[::-1]


def is_wish_ring(lets, order, wishes, value):
    """Return whether a value is a list of numbers as wish_ring returns one."""
    left = _told_left(lets, order, wishes)
    if not isinstance(value, list) or len(value) < 2:
        return False
    if not all([is_count(item) and item < len(order) for item in value]):
        return False
    return all([left[item] >> value[at - 1] & 1 for at, item in enumerate(value)])


def _closed_left(lets, order, wishes):
    """Return, for each number, the mask of those left of it in all joined orders that grant all wishes, or None."""
    left = closed_masks(_told_left(lets, order, wishes))
    return None if any([mask >> number & 1 for number, mask in enumerate(left)]) else left


def needed_pairs(lets, order, wishes):
    """Return the pairs that all deeds turn that lead from an order to one that grants all wishes, None if none do."""
    left = _closed_left(lets, order, wishes)
    if left is None:
        return None
    turned = [mask & ~ahead for mask, ahead in zip(left, ahead_masks(order))]
    return sorted([tuple(sorted([one, other])) for other, mask in enumerate(turned) for one in numbers_in(mask)])


def fewest_deeds(lets, order, wishes):
    """Return the least distance of a joined order that grants all wishes, and the first that has it, or None."""
    left = _closed_left(lets, order, wishes)
    if left is None:
        return None
    far, _, found = nearest_kept(left, order)
    return far, found


def _gains(order, wishes):
    """Return, for each number, tuples of how many wishes are alike, and the mask of those wanted left by so many."""
    times = {}
    for wish in wishes:
        times[wish] = times.get(wish, 0) + 1
    found = [{} for _ in order]
    for (one, other), many in times.items():
        found[other][many] = found[other].get(many, 0) | 1 << one
    return [list(table.items()) for table in found]


def most_granted(lets, order, wishes):
    """Return the greatest number of wishes that a joined order grants, and the first order that grants so many."""
    _need(lets, order, wishes)
    left, _ = sure_masks(lets, order)
    many, _, found = best_kept(left, _gains(order, wishes))
    return many, found
