"""Orders, rows and logs: what they are, and how orders and logs tell one another."""

from math import factorial

from gapswaps.errors import InvalidNumber, InvalidOrder, InvalidRow, Unlike

LONGEST = 200


def is_whole(value):
    """Return whether a value is a whole number: Booleans are none."""
    return isinstance(value, int) and not isinstance(value, bool)


def is_count(value):
    """Return whether a value is a whole number of at least 0."""
    return is_whole(value) and value >= 0


def is_row(value):
    """Return whether a value is a row."""
    if not isinstance(value, list) or len(value) > LONGEST:
        return False
    return all([is_count(item) for item in value])


def is_order(value):
    """Return whether a value is an order."""
    return is_row(value) and sorted(value) == list(range(len(value)))


def is_log(value):
    """Return whether a value is a log."""
    return is_row(value) and all([item <= at for at, item in enumerate(value)])


def need_count(number):
    """Refuse what is no count."""
    if not is_count(number):
        raise InvalidNumber(number)


def need_order(order):
    """Refuse what is no order."""
    if not is_order(order):
        raise InvalidOrder(order)


def need_orders_alike(one, other):
    """Refuse what are no two orders, and then what are none of one length."""
    need_order(one)
    need_order(other)
    if len(one) != len(other):
        raise Unlike(other)


def need_row(row):
    """Refuse what is no row."""
    if not is_row(row):
        raise InvalidRow(row)


def log_of(order):
    """Return the log of an order."""
    need_order(order)
    return [len([other for other in order[:at] if other < item]) for at, item in enumerate(order)]


def order_of(log):
    """Return the order with a log."""
    if not is_log(log):
        raise InvalidRow(log)
    found = []
    for item in log:
        # Whoever comes in greater than just so many lifts those who are not among them.
        found = [other + 1 if other >= item else other for other in found]
        found.append(item)
    return found


def places_of(order):
    """Return the places at which the numbers from 0 on stand in an order."""
    need_order(order)
    found = [0] * len(order)
    for at, item in enumerate(order):
        found[item] = at
    return found


def cut(order, length):
    """Return the order of the first items of an order, each replaced by how many of them are less."""
    need_order(order)
    if not is_count(length) or length > len(order):
        raise InvalidNumber(length)
    kept = order[:length]
    ranks = {item: rank for rank, item in enumerate(sorted(kept))}
    return [ranks[item] for item in kept]


def order_number(order):
    """Return how many orders of the same length are ahead of an order."""
    need_order(order)
    left = sorted(order)
    found = 0
    for item in order:
        found = found * len(left) + left.index(item)
        left.remove(item)
    return found


def order_numbered(length, number):
    """Return the order of a length ahead of which just so many are."""
    if not is_count(length) or length > LONGEST:
        raise InvalidNumber(length)
    if not is_count(number) or number >= factorial(length):
        raise InvalidNumber(number)
    ranks = []
    rest = number
    for size in range(1, length + 1):
        rest, rank = divmod(rest, size)
        ranks.append(rank)
    left = list(range(length))
    found = []
    for rank in reversed(ranks):
        found.append(left.pop(rank))
    return found


def left_count(order, at):
    """Return how many numbers stand left of two neighbours of an order and between them in size."""
    low, high = sorted(order[at:at + 2])
    return len([item for item in order[:at] if low < item < high])


def exchanged(order, at):
    """Return an order in which two neighbours have changed places."""
    return order[:at] + [order[at + 1], order[at]] + order[at + 2:]
