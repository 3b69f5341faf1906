"""The orders of a class that are nearest to an order, which need not be of it."""

from gapswaps.lets import need_lean
from gapswaps.masks import nearest_kept
from gapswaps.orders import need_orders_alike
from gapswaps.pairs import sure_masks


def nearest(lets, order, goal):
    """Return the fewest pairs that a joined order has otherwise than the goal, how many do so, and the first."""
    need_lean(lets)
    need_orders_alike(order, goal)
    left, _ = sure_masks(lets, order)
    return nearest_kept(left, goal)
