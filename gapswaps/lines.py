"""Pieces of orders by lean sets, each of two lines that are put into one another."""

from gapswaps.errors import InvalidList
from gapswaps.lets import need_lean
from gapswaps.masks import ahead_masks, mask_of, numbers_in, ones
from gapswaps.orders import is_whole, need_order
from gapswaps.pairs import loose_masks, sure_masks


def _sides(loose, number):
    """Return the masks of the two lines of the piece of a number, the first line ahead."""
    sides = [0, 0]
    fresh, side = 1 << number, 0
    while fresh:
        sides[side] |= fresh
        met = 0
        for item in numbers_in(fresh):
            met |= loose[item]
        fresh = met & ~(sides[0] | sides[1])
        side = 1 - side
    least = numbers_in(sides[0] | sides[1])[0]
    return (sides[0], sides[1]) if sides[0] >> least & 1 else (sides[1], sides[0])


def _as_they_stand(order, mask):
    """Return the list of the numbers of a mask, as they stand in an order."""
    return [item for item in order if mask >> item & 1]


def _pieces_by(order, loose):
    """Return the list of the pieces of an order, by what makes a loose pair with each number."""
    found = []
    passed = 0
    for number in order:
        if not passed >> number & 1:
            first, second = _sides(loose, number)
            passed |= first | second
            found.append((_as_they_stand(order, first), _as_they_stand(order, second)))
    return found


def _need(lets, order):
    need_lean(lets)
    need_order(order)


def pieces(lets, order):
    """Return the list of the pieces of an order as they stand, each a tuple of its two lines."""
    _need(lets, order)
    left, right = sure_masks(lets, order)
    return _pieces_by(order, loose_masks(left, right))


def marks(lets, order):
    """Return, for each piece, how many of its second line stand left of each number of its first line."""
    found = pieces(lets, order)
    ahead = ahead_masks(order)
    return [[ones(ahead[item] & mask_of(second)) for item in first] for first, second in found]


def _bounds_by(found, left, right):
    """Return, for each of some pieces, the least and the greatest mark of each number of its first line."""
    bound = []
    for first, second in found:
        side, most = mask_of(second), len(second)
        bound.append([(ones(left[item] & side), most - ones(right[item] & side)) for item in first])
    return bound


def bounds(lets, order):
    """Return, for each piece, the least and the greatest mark of each number of its first line."""
    _need(lets, order)
    left, right = sure_masks(lets, order)
    return _bounds_by(_pieces_by(order, loose_masks(left, right)), left, right)


def _are_marks(value, limits):
    """Return whether a value is a list of marks of one piece that never fall and are within its bounds."""
    if not isinstance(value, list) or len(value) != len(limits) or not all([is_whole(mark) for mark in value]):
        return False
    return value == sorted(value) and all([low <= mark <= high for mark, (low, high) in zip(value, limits)])


def _need_marks(value, limits):
    """Refuse what is no list of marks of all pieces, of which the bounds are told."""
    if not isinstance(value, list) or len(value) != len(limits):
        raise InvalidList(value)
    if not all([_are_marks(item, limit) for item, limit in zip(value, limits)]):
        raise InvalidList(value)


def _merged(first, second, told):
    """Return the numbers of two lines, as told by how many of the second stand left of each of the first."""
    found = []
    done = 0
    for item, mark in zip(first, told):
        found.extend(second[done:mark])
        found.append(item)
        done = mark
    return found + second[done:]


def marked(lets, order, value):
    """Return the order joined to an order that has given marks."""
    _need(lets, order)
    left, right = sure_masks(lets, order)
    found = _pieces_by(order, loose_masks(left, right))
    _need_marks(value, _bounds_by(found, left, right))
    whole = []
    for (first, second), told in zip(found, value):
        whole.extend(_merged(first, second, told))
    return whole
