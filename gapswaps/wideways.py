"""The ends of trees of numbers, and what wide rules and orders tell of the ways between two numbers."""

from gapswaps.trees import chain, need_tree, need_tree_number
from gapswaps.widejoining import need_order_of
from gapswaps.widerules import WideRule, need_rule


def ends(tree):
    """Return the list of the numbers of a tree that are directly linked with at most one other one."""
    need_tree(tree)
    links = tree.links()
    return [number for number in range(tree.size()) if len([link for link in links if number in link]) < 2]


def on_way(rule, order, one, other):
    """Return the rule and the order of the numbers that stand for those of the way from one number to another."""
    need_rule(rule)
    need_order_of(rule, order)
    tree = rule.tree()
    need_tree_number(tree, one)
    need_tree_number(tree, other)
    way = tree.way(one, other)
    ranks = {number: rank for rank, number in enumerate(way)}
    lets = []
    for low, high, lot in rule.lets():
        if low in ranks and high in ranks:
            first, last = sorted([ranks[low], ranks[high]])
            lets.append((first, last, sorted([ranks[number] for number in lot])))
    return WideRule(chain(len(way)), sorted(lets)), [ranks[number] for number in order if number in ranks]
