"""Majorities of orders: in what order each two numbers stand as in most of several orders."""

from gapswaps.errors import InvalidList, Unlike
from gapswaps.lets import least_sum, need_good, need_lean
from gapswaps.masks import is_kept, numbers_in, ones, right_masks
from gapswaps.orders import is_order, need_order, places_of
from gapswaps.pairs import loose_masks, sure_masks

MOST_ORDERS = 99


def _need_orders(orders):
    """Refuse what is no list of an odd number of orders of one length."""
    if not isinstance(orders, list) or len(orders) % 2 == 0 or len(orders) > MOST_ORDERS:
        raise InvalidList(orders)
    if not all([is_order(order) for order in orders]) or any([len(order) != len(orders[0]) for order in orders]):
        raise InvalidList(orders)


def _most_left(orders):
    """Return, for each number, the mask of those that stand left of it in most of some orders."""
    places = [places_of(order) for order in orders]
    found = [0] * len(orders[0])
    for high in range(len(found)):
        for low in range(high):
            if 2 * len([place for place in places if place[low] < place[high]]) > len(orders):
                found[high] |= 1 << low
            else:
                found[low] |= 1 << high
    return found


def _majority(orders):
    """Return the order in which each two numbers stand as in most of some orders, None if there is none."""
    counts = [ones(mask) for mask in _most_left(orders)]
    # In an order as many numbers stand left of a number as its place tells; otherwise two have equally many.
    return places_of(counts) if is_order(counts) else None


def majority(orders):
    """Return the order in which each two numbers stand as in most of some orders, None if there is none."""
    _need_orders(orders)
    return _majority(orders)


def round_of(orders):
    """Return the first three numbers each of which most orders have left of the next, all round, None if none are."""
    _need_orders(orders)
    left = _most_left(orders)
    right = right_masks(left)
    for one in range(len(left)):
        for other in numbers_in(right[one]):
            last = numbers_in(right[other] & left[one])
            if last:
                return (one, other, last[0])
    return None


def middle(lets, orders):
    """Return the majority of orders that are all joined."""
    need_lean(lets)
    _need_orders(orders)
    left, _ = sure_masks(lets, orders[0])
    for order in orders:
        if not is_kept(left, order):
            raise Unlike(order)
    return _majority(orders)


def no_middle(lets):
    """Return three joined orders without a majority, of the least length that there is, None if there are none."""
    need_good(lets)
    parts = least_sum(lets)
    if parts is None:
        return None
    middle_one = parts[0] + 1
    high = sum(parts) + 2
    # Behind all those between them in size the three change places as they like.
    ahead = [number for number in range(1, high) if number != middle_one]
    return [ahead + [0, middle_one, high], ahead + [middle_one, high, 0], ahead + [high, 0, middle_one]]


def is_no_middle(lets, value):
    """Return whether a value is a list of three joined orders without a majority, of the least length."""
    need_good(lets)
    parts = least_sum(lets)
    if parts is None or not isinstance(value, list) or len(value) != 3:
        return False
    if not all([is_order(order) and len(order) == sum(parts) + 3 for order in value]):
        return False
    left, _ = sure_masks(lets, value[0])
    return all([is_kept(left, order) for order in value]) and _majority(value) is None


def implied(lets, order):
    """Return all tuples (a, b, c, d) of two unlike pairs of free numbers such that a left of b puts c left of d."""
    need_lean(lets)
    need_order(order)
    left, right = sure_masks(lets, order)
    loose = loose_masks(left, right)
    found = []
    for one in range(len(order)):
        for other in numbers_in(loose[one]):
            # One left of the other puts all surely left of the one to the left of all surely right of the other.
            for low in numbers_in(left[one] | 1 << one):
                for high in numbers_in((right[other] | 1 << other) & loose[low]):
                    if (low, high) != (one, other):
                        found.append((one, other, low, high))
    return found
