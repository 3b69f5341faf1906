"""What goes on behind two rows: the least row that both begin, or a place at which there is none."""

from gapswaps.lets import need_good
from gapswaps.orders import is_count, need_count
from gapswaps.travel import need_rows


def crossed(lets, one, other, met):
    """Lead a line for each item of one row through a column for each item of another one.

    met(lets, line, column) tells what both go on with where their counts meet, None if they cannot; where one of them
    has nothing, both go on as they are. Returned is what the lines end with, what the columns end with, and None; where
    two cannot meet, it is the tuple of the numbers of this line and this column that stands behind two empty rows.
    """
    lines, columns = [], list(other)
    for number, item in enumerate(one):
        line = item
        for place, column in enumerate(list(columns)):
            if line is not None and column is not None:
                told = met(lets, line, column)
                if told is None:
                    return [], [], (number, place)
                line, columns[place] = told
        lines.append(line)
    return [item for item in lines if item is not None], [item for item in columns if item is not None], None


def _met(lets, line, column):
    """Return what a line and a column go on with behind one another, None if their counts do not go together."""
    if line == column:
        return None, None
    if abs(line - column) not in lets:
        return None
    return (line, column + 1) if line < column else (line + 1, column)


def behind(lets, item, other):
    """Return the list of what goes behind a count for another one, None if they do not go together."""
    need_good(lets)
    need_count(item)
    need_count(other)
    told = _met(lets, item, other)
    return None if told is None else [count for count in told[1:] if count is not None]


def both_behind(lets, one, other):
    """Return the least rows behind two rows with which these are joined, None if there are none."""
    need_rows(lets, one, other)
    lines, columns, stopped = crossed(lets, one, other, _met)
    return (columns, lines) if stopped is None else None


def going_on(lets, one, other):
    """Return what least_going_on does, for rows of whatever length."""
    _, columns, stopped = crossed(lets, one, other, _met)
    return one + columns if stopped is None else None


def least_going_on(lets, one, other):
    """Return the first of two rows with what the least row that both begin has behind it, None if there is none."""
    need_rows(lets, one, other)
    return going_on(lets, one, other)


def bar(lets, one, other):
    """Return the numbers of an item of each of two rows up to which there is first no common going-on, or None."""
    need_rows(lets, one, other)
    # All lines ahead of the one that is stopped go through all columns, and this one through those ahead.
    _, _, stopped = crossed(lets, one, other, _met)
    return stopped


def _together(lets, one, other, number, place):
    """Return whether the first items of two rows, so many of each, have a common going-on."""
    return going_on(lets, one[:number], other[:place]) is not None


def is_bar(lets, one, other, value):
    """Return whether a value tells two items as bar does."""
    need_rows(lets, one, other)
    if not isinstance(value, tuple) or len(value) != 2 or not all([is_count(item) for item in value]):
        return False
    number, place = value
    if number >= len(one) or place >= len(other) or _together(lets, one, other, number + 1, place + 1):
        return False
    return _together(lets, one, other, number + 1, place) and _together(lets, one, other, number, place + 1)
