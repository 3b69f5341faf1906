"""Wide rules: which numbers of a tree may change places, told by which ones between them stand left of both.

Within the package a lot is kept as the mask of its numbers.
"""

from gapswaps.errors import InvalidList, InvalidRule, Unlike
from gapswaps.lets import need_lets
from gapswaps.masks import mask_of, numbers_in, ones, parts_of
from gapswaps.orders import is_count
from gapswaps.trees import need_tree


def _is_let(tree, value):
    """Return whether a value is a let of a tree."""
    if not isinstance(value, tuple) or len(value) != 3:
        return False
    low, high, lot = value
    if not isinstance(lot, list) or not all([is_count(item) and item < tree.size() for item in [low, high, *lot]]):
        return False
    mask = mask_of(lot)
    return low < high and lot == numbers_in(mask) and not mask & ~tree.over(low, high)


def _are_lets(tree, value):
    """Return whether a value is a list of lets of a tree, in order, each once."""
    if not isinstance(value, list) or not all([_is_let(tree, item) for item in value]):
        return False
    return all([value[at] < item for at, item in enumerate(value[1:])])


class WideRule:
    """The rule that has the lets of a list, in order, for a tree, and no others."""

    def __init__(self, tree, items):
        need_tree(tree)
        if not _are_lets(tree, items):
            raise InvalidList(items)
        self._tree = tree
        # In the order of the items, in which lets returns them.
        self._table = {(low, high, mask_of(lot)): True for low, high, lot in items}

    def tree(self):
        """Return the tree of the rule."""
        return self._tree

    def lets(self):
        """Return the lets, in order."""
        return [(low, high, numbers_in(mask)) for low, high, mask in self._table]

    def allows(self, one, other, ahead):
        """Return whether two numbers may change places where just the numbers of a mask stand left of both."""
        return (min(one, other), max(one, other), ahead & self._tree.over(one, other)) in self._table

    def __eq__(self, other):
        return isinstance(other, WideRule) and self._tree == other._tree and self._table == other._table


def need_rule(rule):
    """Refuse what is no rule."""
    if not isinstance(rule, WideRule):
        raise InvalidRule(rule)


def need_even(rule):
    """Refuse what is no even rule."""
    if not is_even(rule):
        raise InvalidRule(rule)


def _pairs_of(tree):
    """Return the list of the tuples of two numbers of a tree, the lesser one first, in order."""
    return [(low, high) for low in range(tree.size()) for high in range(low + 1, tree.size())]


def rule_by_counts(tree, lets):
    """Return the rule that has just the lets with a lot whose length is in a set of counts."""
    need_tree(tree)
    need_lets(lets)
    found = []
    for low, high in _pairs_of(tree):
        parts = parts_of(tree.over(low, high))
        found.extend([(low, high, numbers_in(part)) for part in parts if ones(part) in lets])
    return WideRule(tree, sorted(found))


def shared(one, other):
    """Return the rule with the lets that two rules have."""
    need_rule(one)
    need_rule(other)
    if one.tree() != other.tree():
        raise Unlike(other)
    found = [(low, high, lot) for low, high, lot in one.lets() if other.allows(low, high, mask_of(lot))]
    return WideRule(one.tree(), found)


def _is_fault(rule, low, middle, high, lot):
    """Return whether two numbers, one between them and a mask of others between them make a fault of a rule."""
    if not rule.allows(low, middle, lot) or not rule.allows(middle, high, lot):
        return False
    return rule.allows(low, high, lot) != rule.allows(low, high, lot | 1 << middle)


def _faults(rule):
    """Return the list of the faults of a rule, in order."""
    tree = rule.tree()
    found = []
    for low, high in _pairs_of(tree):
        over = tree.over(low, high)
        for middle in numbers_in(over):
            parts = [part for part in parts_of(over & ~(1 << middle)) if _is_fault(rule, low, middle, high, part)]
            found.extend([(low, middle, high, numbers_in(part)) for part in parts])
    return sorted(found)


def is_even(rule):
    """Return whether a rule has no fault."""
    need_rule(rule)
    return not _faults(rule)


def first_fault(rule):
    """Return the first fault of a rule, None if it has none."""
    need_rule(rule)
    found = _faults(rule)
    return found[0] if found else None


def with_lets(rule, items):
    """Return the rule that has the lets of a rule and those of a list, some of which it may have already."""
    found = rule.lets()
    for item in items:
        if item not in found:
            found.append(item)
    return WideRule(rule.tree(), sorted(found))


def even_above(rule):
    """Return the even rule with all lets of a rule that has the fewest."""
    need_rule(rule)
    found = rule
    faults = _faults(found)
    while faults:
        # Of the two lets that a fault speaks of one is there, and every even rule above has the other one, too.
        more = [(low, high, lot) for low, _, high, lot in faults]
        more.extend([(low, high, sorted([middle, *lot])) for low, middle, high, lot in faults])
        found = with_lets(found, more)
        faults = _faults(found)
    return found
