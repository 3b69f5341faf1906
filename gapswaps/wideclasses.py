"""Classes of orders joined by even wide rules: what their orders share, and how many there are."""

from gapswaps.errors import InvalidList
from gapswaps.masks import how_many_keep, mask_of, numbers_in, ones, parts_of, sure_by
from gapswaps.orders import is_count
from gapswaps.widejoining import need_order_of
from gapswaps.widerules import need_even


def _kept_masks(rule, order):
    """Return, for each number, the masks of those left and right of it in all orders joined to an order: two lists."""
    need_even(rule)
    need_order_of(rule, order)

    def may_change(one, other, ahead):
        return rule.allows(one, other, ahead)

    return sure_by(order, may_change)


def kept_pairs(rule, order):
    """Return the list of the tuples of two numbers, the first left of the second in all orders joined to an order."""
    _, right = _kept_masks(rule, order)
    return [(number, other) for number, mask in enumerate(right) for other in numbers_in(mask)]


def how_many_wide_joined(rule, order):
    """Return how many orders are joined to an order."""
    left, _ = _kept_masks(rule, order)
    return how_many_keep(left)


def _are_numbers(tree, value):
    """Return whether a value is a list, in order, of different numbers of a tree."""
    if not isinstance(value, list) or not all([is_count(item) and item < tree.size() for item in value]):
        return False
    return value == numbers_in(mask_of(value))


def _need(rule, lot):
    need_even(rule)
    if not _are_numbers(rule.tree(), lot):
        raise InvalidList(lot)


def _all_change(rule, ahead, part):
    """Return whether each two numbers of a mask may change places where just those of another stand left of both."""
    numbers = numbers_in(part)
    return all([rule.allows(low, high, ahead) for at, high in enumerate(numbers) for low in numbers[:at]])


def _whole(rule):
    """Return the mask of all numbers of the tree of a rule."""
    return (1 << rule.tree().size()) - 1


def _parts_behind(rule, ahead):
    """Return the masks of one or more numbers not among some, each two of which may change places behind just these."""
    return [part for part in parts_of(_whole(rule) & ~ahead) if part and _all_change(rule, ahead, part)]


def first_lots(rule, lot):
    """Return the list of all lists of numbers not in a lot, each two of which may change places behind just this."""
    _need(rule, lot)
    return sorted([numbers_in(part) for part in _parts_behind(rule, mask_of(lot))])


def how_many_wide_classes(rule, lot):
    """Return into how many classes the orders that begin with a lot fall if deeds are done only behind it."""
    _need(rule, lot)
    begun = mask_of(lot)
    whole = _whole(rule)
    counts = {whole: 1}
    # Greater masks first: each count is made of those for masks with more numbers.
    for ahead in reversed(parts_of(whole & ~begun)):
        mask = ahead | begun
        if mask != whole:
            signed = [(1 if ones(part) & 1 else -1, mask | part) for part in _parts_behind(rule, mask)]
            counts[mask] = sum([sign * counts[more] for sign, more in signed])
    return counts[begun]
