"""The orders of a class that are nearest to an order, which need not be of it."""

from gapswaps.errors import Unlike
from gapswaps.lets import need_lean
from gapswaps.masks import nearest_kept
from gapswaps.orders import need_order
from gapswaps.pairs import sure_masks


def nearest(lets, order, goal):
    """Return the fewest pairs that a joined order has otherwise than the goal, how many do so, and the first."""
    need_lean(lets)
    need_order(order)
    need_order(goal)
    if len(goal) != len(order):
        raise Unlike(goal)
    left, _ = sure_masks(lets, order)
    return nearest_kept(left, goal)
