"""Rows from behind: what goes ahead of two rows, and the greatest row that ends both."""

from gapswaps.goingson import crossed
from gapswaps.lasts import lasts_of, taken_last
from gapswaps.travel import need_rows


def _met(lets, line, column):
    """Return what a line and a column go on with ahead of one another, None if nothing makes their counts meet."""
    if line == column:
        return None, None
    if abs(line - column) - 1 not in lets:
        return None
    return (line, column - 1) if line < column else (line - 1, column)


def both_ahead(lets, one, other):
    """Return the least rows ahead of two rows with which these are joined, None if there are none."""
    need_rows(lets, one, other)
    lines, columns, stopped = crossed(lets, one[::-1], other[::-1], _met)
    return (columns[::-1], lines[::-1]) if stopped is None else None


def least_ended(lets, one, other):
    """Return the first of two rows with what the least row that both end has ahead of it, None if there is none."""
    found = both_ahead(lets, one, other)
    return None if found is None else found[0] + one


def taken_from_both(lets, one, other, counts_of, taken):
    """Take the least count out of two rows that stands at an end of joined ones of both, as long as there is one.

    counts_of(lets, row) tells the counts at this end, in order, and taken(lets, row, item) what one leaves of a row.
    Returned are the counts, one after the other, and the two rows that are left.
    """
    found = []
    one_left, other_left = one, other
    while True:
        counts = counts_of(lets, other_left)
        common = [item for item in counts_of(lets, one_left) if item in counts]
        if not common:
            return found, one_left, other_left
        found.append(common[0])
        one_left = taken(lets, one_left, common[0])
        other_left = taken(lets, other_left, common[0])


def greatest_ending(lets, one, other):
    """Return the first row of those with the most items that end both of two rows."""
    need_rows(lets, one, other)
    found, _, _ = taken_from_both(lets, one, other, lasts_of, taken_last)
    return found[::-1]
