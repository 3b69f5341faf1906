"""One log for each class of joined logs: the first row of all that are joined to it, numbered there and back."""

from gapswaps.errors import InvalidNumber, InvalidRow
from gapswaps.lasts import lasts_behind, lasts_of, taken_last
from gapswaps.lets import need_good
from gapswaps.masks import mask_of, picked
from gapswaps.orders import is_log, need_count, need_row


def first_row(lets, row):
    """Return, of the rows joined to a row, the one with the least last item, then the least last but one, and so on."""
    need_good(lets)
    need_row(row)
    found, rest = [], row
    while rest:
        least = lasts_of(lets, rest)[0]
        rest = taken_last(lets, rest, least)
        found.append(least)
    return found[::-1]


def is_first(lets, row):
    """Return whether a row is its own first row."""
    need_good(lets)
    need_row(row)
    lasts = []
    for item in row:
        if any([item - count - 1 in lets for count in lasts]):
            return False
        lasts = lasts_behind(lets, lasts, item)
    return True


def _tables(lets, length):
    """Return two lists of masks for each item: the last counts that bar it, and those that it makes greater by 1."""
    told = [number for number in range(1, length) if number in lets]
    barring = [mask_of([item - number - 1 for number in told if number < item]) for item in range(length)]
    lifted = [mask_of([item + number for number in told]) for item in range(length)]
    return barring, lifted


def _next_items(tables, lasts, many):
    """Return the items that may stand next in a first log behind so many, and the last counts of the class then.

    lasts is the mask of the last counts of the class of those ahead; each item has its own one in a tuple with it.
    """
    barring, lifted = tables
    return [(item, 1 << item | (lasts & lifted[item]) << 1) for item in range(many + 1) if not lasts & barring[item]]


def _ends_counted(tables, length):
    """Return, for each count of items, the table that tells by last counts how many first logs of a length go on so."""
    layers = [[0]]
    for many in range(length):
        found = {after: True for lasts in layers[many] for _, after in _next_items(tables, lasts, many)}
        layers.append(list(found))
    counts = {lasts: 1 for lasts in layers[length]}
    ends = [counts]
    for many in reversed(range(length)):
        counts = {
            lasts: sum([counts[after] for _, after in _next_items(tables, lasts, many)]) for lasts in layers[many]
        }
        ends.append(counts)
    return ends[::-1]


def _first_log(lets, log):
    """Return the first row of a log."""
    need_good(lets)
    if not is_log(log):
        raise InvalidRow(log)
    return first_row(lets, log)


def _along(tables, log):
    """Return, for each item of a first log, what may stand in its place behind those ahead of it."""
    found = []
    lasts = 0
    for many, item in enumerate(log):
        found.append(_next_items(tables, lasts, many))
        lasts = dict(found[-1])[item]
    return found


def class_number(lets, log):
    """Return the number of the class of a log."""
    first = _first_log(lets, log)
    tables = _tables(lets, len(first))
    ends = _ends_counted(tables, len(first))
    found = 0
    for many, items in enumerate(_along(tables, first)):
        found += sum([ends[many + 1][lasts] for item, lasts in items if item < first[many]])
    return found


def class_numbered(lets, length, number):
    """Return the first row of the class of logs of a length with a number."""
    need_good(lets)
    need_count(length)
    need_count(number)
    tables = _tables(lets, length)
    ends = _ends_counted(tables, length)
    if number >= ends[0][0]:
        raise InvalidNumber(number)
    found, lasts, rest = [], 0, number
    for many in range(length):
        items = _next_items(tables, lasts, many)
        at, rest = picked([ends[many + 1][after] for _, after in items], rest)
        item, lasts = items[at]
        found.append(item)
    return found


def next_class(lets, log):
    """Return the first row of the class next behind that of a log, None if there is none."""
    first = _first_log(lets, log)
    along = _along(_tables(lets, len(first)), first)
    for many in reversed(range(len(first))):
        greater = [item for item, _ in along[many] if item > first[many]]
        if greater:
            # No last count bars 0.
            return first[:many] + greater[:1] + [0] * (len(first) - many - 1)
    return None
