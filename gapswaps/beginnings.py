"""Rows that begin others: the greatest one that begins several rows, and all that begin one."""

from gapswaps.endings import taken_from_both
from gapswaps.errors import InvalidList, InvalidNumber, TooMany
from gapswaps.goingson import going_on
from gapswaps.lets import need_good
from gapswaps.masks import mask_of, numbers_in, ones
from gapswaps.orders import is_count, is_row, need_row
from gapswaps.pairs import sure_masks
from gapswaps.travel import firsts_of, need_rows, taken_first

MOST_AT_ONCE = 500
MOST_IN_ALL = 5000
MOST_ROWS = 8


def _shared(lets, one, other):
    """Return the first in order of the greatest rows that begin both of two rows, and what it leaves of both."""
    return taken_from_both(lets, one, other, firsts_of, taken_first)


def greatest_beginning(lets, one, other):
    """Return the first in order of the rows with the most items that begin both of two rows."""
    need_rows(lets, one, other)
    found, _, _ = _shared(lets, one, other)
    return found


def both_left(lets, one, other):
    """Return the rows that are left of two rows divided by the greatest row that begins both."""
    need_rows(lets, one, other)
    _, one_left, other_left = _shared(lets, one, other)
    return list(one_left), list(other_left)


def _sized(row):
    """Return the order of a row's items by size and, for each of its numbers, how many lesser ones stand ahead of all.

    The row is taken for the end of a log that begins with as many ascending numbers as it needs: each item stands for a
    number behind these, told by its rank among all such numbers and by how many of those ahead are less.
    """
    ranked, bases = [], {}
    for at, item in enumerate(row):
        rank = 0
        while rank < len(ranked) and bases[ranked[rank]] < item - rank:
            rank += 1
        ranked.insert(rank, at)
        bases[at] = item - rank
    ranks = {at: rank for rank, at in enumerate(ranked)}
    return [ranks[at] for at in range(len(row))], [bases[at] for at in ranked]


def _row_of(order, bases):
    """Return the row of numbers as they stand one behind the other: for each, the count of the lesser ones ahead."""
    found = []
    ahead = 0
    for number in order:
        found.append(bases[number] + ones(ahead & ((1 << number) - 1)))
        ahead |= 1 << number
    return found


def _longer(left, begun):
    """Return the list of the sets of numbers by one greater than some with which rows begin, each one once."""
    found = {}
    for mask in begun:
        for number, ahead in enumerate(left):
            if not mask >> number & 1 and not ahead & ~mask:
                found[mask | 1 << number] = True
    return list(found)


def _first_order(left, mask):
    """Return the first order of the numbers of a set in which each stands right of those that have to be left of it."""
    found = []
    rest = numbers_in(mask)
    while rest:
        placed = mask_of(found)
        found.append([number for number in rest if not left[number] & ~placed][0])
        rest.remove(found[-1])
    return found


def beginnings(lets, row, length):
    """Return, in order, the first in order of each class of rows of a length that begin a row."""
    need_good(lets)
    need_row(row)
    if not is_count(length) or length > len(row):
        raise InvalidNumber(length)
    order, bases = _sized(row)
    left, _ = sure_masks(lets, order, bases)
    begun = [0]
    for _ in range(length):
        begun = _longer(left, begun)
        if len(begun) > MOST_AT_ONCE:
            raise TooMany(MOST_AT_ONCE + 1)
    return sorted([_row_of(_first_order(left, mask), bases) for mask in begun])


def how_many_beginnings(lets, row):
    """Return how many classes of rows begin a row."""
    need_good(lets)
    need_row(row)
    order, bases = _sized(row)
    left, _ = sure_masks(lets, order, bases)
    begun, many = [0], 1
    for _ in row:
        begun = _longer(left, begun)
        many += len(begun)
        if many > MOST_IN_ALL:
            raise TooMany(MOST_IN_ALL + 1)
    return many


def _need_list(lets, rows):
    need_good(lets)
    if not isinstance(rows, list) or len(rows) > MOST_ROWS or not all([is_row(row) for row in rows]):
        raise InvalidList(rows)


def common_going_on(lets, rows):
    """Return the first in order of the shortest rows that all rows of a list begin, None if there is none."""
    _need_list(lets, rows)
    found = []
    for row in rows:
        found = going_on(lets, found, row)
        if found is None:
            return None
    # What begins the row and the row itself, with the most items, are all rows joined to it.
    first, _, _ = _shared(lets, found, found)
    return first


def common_beginning(lets, rows):
    """Return the first in order of the rows with the most items that begin all rows of a list."""
    _need_list(lets, rows)
    if not rows:
        raise InvalidList(rows)
    found = rows[0]
    for row in rows:
        found, _, _ = _shared(lets, found, row)
    return found
