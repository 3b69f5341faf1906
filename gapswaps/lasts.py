"""Last items of the rows joined to a row, and lots: sets of counts that can be last items of one class."""

from gapswaps.lets import need_good, need_lets
from gapswaps.masks import mask_of
from gapswaps.orders import is_count, need_count, need_row


def lasts_behind(lets, ahead, item):
    """Return the counts with which rows joined to one end, by those for what is ahead of its last item, and this."""
    found = {item: True}
    for count in ahead:
        if item - count - 1 in lets:
            found[count] = True
        elif count - item in lets:
            found[count + 1] = True
    return sorted(list(found))


def lasts_of(lets, row):
    """Return the counts with which rows joined to a row end, in order."""
    found = []
    for item in row:
        found = lasts_behind(lets, found, item)
    return found


def taken_last(lets, row, item):
    """Return the row that is left if a number is taken out of a row from behind, None if it stops."""
    passed = []
    traveller = item
    for at in reversed(range(len(row))):
        last = row[at]
        if last == traveller:
            return row[:at] + passed[::-1]
        if last - traveller - 1 in lets:
            passed.append(last - 1)
        elif traveller - last - 1 in lets:
            passed.append(last)
            traveller -= 1
        else:
            return None
    return None


def class_last(lets, row):
    """Return the list of the counts with which rows joined to a row end."""
    need_good(lets)
    need_row(row)
    return lasts_of(lets, row)


def without_last(lets, row, item):
    """Return the row that is left if a number is taken out of a row from behind, None if it stops."""
    need_good(lets)
    need_row(row)
    need_count(item)
    return taken_last(lets, row, item)


def _fits(lets, ahead, item):
    """Return whether an item is greater than all of an ascending list by 1 more than a number in a set."""
    for other in reversed(ahead):
        if item - other - 1 not in lets:
            return False
        if lets.start() is not None and item - other > lets.start():
            # All those ahead are as far away, or farther.
            return True
    return True


def is_lot(lets, length, value):
    """Return whether a value is a lot below a number."""
    need_lets(lets)
    need_count(length)
    if not isinstance(value, list) or not all([is_count(item) and item < length for item in value]):
        return False
    return all([_fits(lets, value[:at], item) for at, item in enumerate(value)])


def lots_counted(lets, length):
    """Return, for each number up to a length, the list of how many lots of each size there are below it."""
    apart = mask_of([number + 1 for number in range(1, length) if number in lets])
    # The counts for all sizes stand side by side in one number, each in as many bits as all need.
    width = length + 1
    found = [[1]]
    # How many lots there are below where one stands, by the counts from there on that each of them leaves free.
    layer = {(1 << length) - 1: 1}
    for _ in range(length):
        after = {}
        for free, many in layer.items():
            rest = free >> 1
            after[rest] = after.get(rest, 0) + many
            if free & 1:
                rest &= apart >> 1
                after[rest] = after.get(rest, 0) + (many << width)
        layer = after
        found.append(_parted(sum(list(layer.values())), width))
    return found


def _parted(whole, width):
    """Return the list of the numbers that stand side by side in a number, each in so many bits."""
    found = []
    rest = whole
    while rest:
        found.append(rest & ((1 << width) - 1))
        rest >>= width
    return found


def how_many_lots(lets, length, size):
    """Return how many lots of a size there are below a number."""
    need_good(lets)
    need_count(length)
    need_count(size)
    counts = lots_counted(lets, length)[length]
    return counts[size] if size < len(counts) else 0


def most_last(lets, length):
    """Return the greatest size of a lot below a number."""
    need_good(lets)
    need_count(length)
    return len(lots_counted(lets, length)[length]) - 1
