"""Orders joined by wide rules: deeds, ways, and places at which a way is barred."""

from gapswaps.errors import InvalidList, InvalidOrder, InvalidPlace
from gapswaps.masks import mask_of, numbers_in
from gapswaps.orders import exchanged, is_count, is_order, places_of
from gapswaps.widerules import even_above, need_even, need_rule, with_lets


def need_order_of(rule, order):
    """Refuse what is no order of the numbers of a rule's tree."""
    if not is_order(order) or len(order) != rule.tree().size():
        raise InvalidOrder(order)


def _may_change(rule, order, at):
    """Return whether the neighbours at a place of an order may change."""
    return rule.allows(order[at], order[at + 1], mask_of(order[:at]))


def rule_places(rule, order):
    """Return the list of the places at which neighbours of an order may change."""
    need_rule(rule)
    need_order_of(rule, order)
    return [at for at in range(len(order) - 1) if _may_change(rule, order, at)]


def _is_place(order, at):
    """Return whether a value is a place of two neighbours of an order."""
    return is_count(at) and at < len(order) - 1


def rule_led(rule, order, places):
    """Return the order behind the deeds at the places of a list, one behind the other."""
    need_rule(rule)
    need_order_of(rule, order)
    if not isinstance(places, list):
        raise InvalidList(places)
    found = list(order)
    for at in places:
        if not _is_place(found, at) or not _may_change(rule, found, at):
            raise InvalidPlace(at)
        found = exchanged(found, at)
    return found


def _need(rule, one, other):
    need_even(rule)
    need_order_of(rule, one)
    need_order_of(rule, other)


def _stand_otherwise(goals, order, at):
    """Return whether the neighbours at a place of an order stand the other way about by their places in another."""
    return goals[order[at]] > goals[order[at + 1]]


def _turns(goals, order):
    """Return the list of the places of an order whose neighbours stand otherwise in another one."""
    return [at for at in range(len(order) - 1) if _stand_otherwise(goals, order, at)]


def _road(one, other):
    """Return the orders of a shortest list of exchanges that leads from one order to another, and their places."""
    goals = places_of(other)
    orders, places = [one], []
    while orders[-1] != other:
        places.append(_turns(goals, orders[-1])[0])
        orders.append(exchanged(orders[-1], places[-1]))
    return orders, places


def rule_joined(rule, one, other):
    """Return ("joined", places) with a shortest list of deeds, or ("barred", places, at) with what bars one."""
    _need(rule, one, other)
    orders, places = _road(one, other)
    for many, at in enumerate(places):
        if not _may_change(rule, orders[many], at):
            return ("barred", places[:many], at)
    return ("joined", places)


def _turned(rule, one, other, places):
    """Return the order behind deeds, each let and of two numbers that stand otherwise in another order, or None."""
    if not isinstance(places, list):
        return None
    goals = places_of(other)
    found = one
    for at in places:
        if not _is_place(found, at) or not _stand_otherwise(goals, found, at) or not _may_change(rule, found, at):
            return None
        found = exchanged(found, at)
    return found


def is_answer(rule, one, other, value):
    """Return whether a value is a tuple that rule_joined may return."""
    _need(rule, one, other)
    if not isinstance(value, tuple) or len(value) not in (2, 3):
        return False
    found = _turned(rule, one, other, value[1])
    if found is None:
        return False
    if len(value) == 2:
        # Each of the deeds brings the order nearer, so there are as few of them as can be.
        return value[0] == "joined" and found == other
    at = value[2]
    if value[0] != "barred" or not _is_place(found, at):
        return False
    return _stand_otherwise(places_of(other), found, at) and not _may_change(rule, found, at)


def _let_at(rule, order, at):
    """Return the let of the tree of a rule by which the neighbours at a place of an order may change."""
    one, other = sorted(order[at:at + 2])
    return (one, other, numbers_in(mask_of(order[:at]) & rule.tree().over(one, other)))


def least_wide_joining(rule, one, other):
    """Return the even rule with all lets of a rule that joins two orders and has the fewest lets."""
    _need(rule, one, other)
    orders, places = _road(one, other)
    # By each even rule that joins them every shortest list is let, so this one is; and where one is, they are joined.
    return even_above(with_lets(rule, [_let_at(rule, orders[many], at) for many, at in enumerate(places)]))
