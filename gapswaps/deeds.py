"""Single deeds of orders and of rows, and lists of deeds."""

from gapswaps.errors import InvalidList, InvalidPlace
from gapswaps.lets import need_lets
from gapswaps.orders import exchanged, is_count, left_count, need_order, need_row


def _need_place(order, at):
    """Refuse what is no place of two neighbours of an order."""
    if not is_count(at) or at > len(order) - 2:
        raise InvalidPlace(at)


def left_between(order, at):
    """Return how many numbers are between two neighbours of an order in size and left of both."""
    need_order(order)
    _need_place(order, at)
    return left_count(order, at)


def order_done(lets, order, at):
    """Return the order behind the deed at a place of an order."""
    need_lets(lets)
    need_order(order)
    _need_place(order, at)
    if left_count(order, at) not in lets:
        raise InvalidPlace(at)
    return exchanged(order, at)


def _done(lets, row, at):
    """Return what stands at a place of a row and at the next one behind the deed there, None if there is none."""
    one, other = row[at], row[at + 1]
    if other - one - 1 in lets:
        return (other - 1, one)
    if one - other in lets:
        return (other, one + 1)
    return None


def row_done(lets, row, at):
    """Return the row behind the deed at a place of a row."""
    need_lets(lets)
    need_row(row)
    _need_place(row, at)
    found = _done(lets, row, at)
    if found is None:
        raise InvalidPlace(at)
    return row[:at] + list(found) + row[at + 2:]


def open_places(lets, row):
    """Return the list of the places at which there are deeds of a row."""
    need_lets(lets)
    need_row(row)
    return [at for at in range(len(row) - 1) if _done(lets, row, at) is not None]


def deeds_done(lets, row, places):
    """Return the row behind the deeds at places, as far as there are deeds, and how many were done."""
    found = list(row)
    for many, at in enumerate(places):
        items = _done(lets, found, at) if is_count(at) and at < len(found) - 1 else None
        if items is None:
            return found, many
        found[at], found[at + 1] = items
    return found, len(places)


def led(lets, row, places):
    """Return the row behind the deeds at the places of a list, one behind the other."""
    need_lets(lets)
    need_row(row)
    if not isinstance(places, list):
        raise InvalidList(places)
    found, many = deeds_done(lets, row, places)
    if many < len(places):
        raise InvalidPlace(places[many])
    return found


def followed(lets, row, places):
    """Return, for each item of the row behind the deeds at places, the number that it had ahead of them."""
    led(lets, row, places)
    found = list(range(len(row)))
    for at in places:
        found[at], found[at + 1] = found[at + 1], found[at]
    return found
