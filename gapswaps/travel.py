"""Numbers that travel through rows, and what rows are joined by good sets."""

from gapswaps.deeds import deeds_done
from gapswaps.errors import Unlike
from gapswaps.lets import need_good
from gapswaps.orders import is_count, log_of, need_count, need_orders_alike, need_row


def _journey(lets, row, item):
    """Return the items that a number passes in a row, as they become, and whether it is found behind them."""
    behind = []
    traveller = item
    for first in row:
        if first == traveller:
            return behind, True
        if traveller - first in lets:
            traveller += 1
            behind.append(first)
        elif first - traveller in lets:
            behind.append(first + 1)
        else:
            return behind, False
    return behind, False


def _need_one(lets, row, item):
    need_good(lets)
    need_row(row)
    need_count(item)


def taken_first(lets, row, item):
    """Return the row that is left if a number travels through a row and is found, None if it stops."""
    behind, is_found = _journey(lets, row, item)
    return behind + row[len(behind) + 1:] if is_found else None


def without(lets, row, item):
    """Return the row that is left if a number travels through a row and is found, None if it stops."""
    _need_one(lets, row, item)
    return taken_first(lets, row, item)


def passed(lets, row, item):
    """Return how many items a number passes in a row until it is found or stops."""
    _need_one(lets, row, item)
    return len(_journey(lets, row, item)[0])


def need_rows(lets, one, other):
    """Refuse what is no good set, and then what are no two rows."""
    need_good(lets)
    need_row(one)
    need_row(other)


def _road(lets, row, by):
    """Return places of deeds that bring the items of by ahead in a row, one after the other, and what is left.

    If an item stops, its number and how many items it passes stand behind these, otherwise None.
    """
    rest = list(row)
    places = []
    for number, item in enumerate(by):
        behind, is_found = _journey(lets, rest, item)
        many = len(behind)
        if not is_found:
            return places, rest, (number, many)
        # What was found comes to the front from where it stands: past the last item passed first.
        places.extend([number + at for at in reversed(range(many))])
        rest = behind + rest[many + 1:]
    return places, rest, None


def divided(lets, row, by):
    """Return the row that is left if the items of by travel through a row, one after the other; None if one stops."""
    need_rows(lets, row, by)
    _, rest, stopped = _road(lets, row, by)
    return rest if stopped is None else None


def joined(lets, one, other):
    """Return whether two rows are joined."""
    return divided(lets, one, other) == []


def _firsts(lets, first, behind):
    """Return the counts with which rows joined to one begin, by its first item and those for what is behind it."""
    found = {first: True}
    for item in behind:
        if item - 1 - first in lets:
            found[item - 1] = True
        elif first - item in lets:
            found[item] = True
    return found


def firsts_of(lets, row):
    """Return the counts with which rows joined to a row begin, in order."""
    found = {}
    for first in reversed(row):
        found = _firsts(lets, first, found)
    return sorted(list(found))


def class_first(lets, row):
    """Return the list of the counts with which rows joined to a row begin."""
    need_good(lets)
    need_row(row)
    return firsts_of(lets, row)


def _need_alike(lets, one, other):
    need_rows(lets, one, other)
    if len(one) != len(other):
        raise Unlike(other)


def _whole_road(lets, one, other):
    """Return the places at which deeds lead from one row to another one of its length, None if an item stops."""
    places, _, stopped = _road(lets, one, other)
    return places if stopped is None else None


def way(lets, one, other):
    """Return as few places as can be at which deeds lead from one row to another one, None if nothing does."""
    _need_alike(lets, one, other)
    return _whole_road(lets, one, other)


def is_way(lets, one, other, value):
    """Return whether a value is a list of places at which deeds lead from one row to another one."""
    _need_alike(lets, one, other)
    return isinstance(value, list) and deeds_done(lets, one, value) == (other, len(value))


def stop(lets, one, other):
    """Return deeds, how many items they bring ahead, and how many the next one passes until it stops, or None."""
    _need_alike(lets, one, other)
    places, _, stopped = _road(lets, one, other)
    return None if stopped is None else (places, stopped[0], stopped[1])


def is_stop(lets, one, other, value):
    """Return whether a value tells deeds and a place at which the next item of another row stops."""
    _need_alike(lets, one, other)
    if not isinstance(value, tuple) or len(value) != 3:
        return False
    places, number, many = value
    if not isinstance(places, list) or not is_count(number) or not is_count(many) or number >= len(other):
        return False
    row, done = deeds_done(lets, one, places)
    if done < len(places) or row[:number] != other[:number]:
        return False
    behind, is_found = _journey(lets, row[number:], other[number])
    return not is_found and len(behind) == many


def joined_orders(lets, one, other):
    """Return whether two orders are joined."""
    return order_way(lets, one, other) is not None


def order_way(lets, one, other):
    """Return as few places as can be at which let deeds lead from one order to another one, None if nothing does."""
    need_good(lets)
    need_orders_alike(one, other)
    return _whole_road(lets, log_of(one), log_of(other))
