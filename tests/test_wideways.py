"""[52] and [53] Ends of trees, and the ways between two of their numbers by a wide rule."""

import unittest
from itertools import product

import plain
from gapswaps.errors import InvalidNumber, InvalidOrder, InvalidRule, InvalidTree
from gapswaps.lets import Lets
from gapswaps.trees import Tree, chain
from gapswaps.widejoining import rule_joined
from gapswaps.widerules import WideRule, even_above, is_even, rule_by_counts
from gapswaps.wideways import ends, on_way

BIG = 10 ** 29
STAR = Tree([(0, 1), (0, 2), (0, 3)])
FORK = Tree([(0, 4), (1, 2), (2, 4), (3, 4)])


def plain_on_way(links, items, order, one, other):
    """The way, the lets on it and the order, renamed one by one."""
    way = plain.tree_way(links, one, other)
    lets = []
    for low, high, lot in items:
        if low in way and high in way:
            first, last = sorted([way.index(low), way.index(high)])
            lets.append((first, last, sorted(way.index(number) for number in lot)))
    return len(way), sorted(lets), [way.index(number) for number in order if number in way]


class EndsTest(unittest.TestCase):
    def test_ends(self):
        for links in plain.TREES + plain.WIDER_TREES:
            numbers = [number for link in links for number in link]
            self.assertEqual(ends(Tree(links)), [number for number in range(len(links) + 1) if numbers.count(number) < 2])

    def test_edges(self):
        self.assertEqual((ends(chain(1)), ends(chain(2)), ends(chain(8))), ([0], [0, 1], [0, 7]))
        self.assertEqual(ends(Tree([(at, 7) for at in range(7)])), [0, 1, 2, 3, 4, 5, 6])
        self.assertEqual(ends(Tree([(0, at) for at in range(1, 8)])), [1, 2, 3, 4, 5, 6, 7])
        ends(STAR).append(9)
        self.assertEqual(ends(STAR), [1, 2, 3])

    def test_wrong_trees(self):
        for tree in (None, True, 0, [], [(0, 1)], (), {}, Lets([1]), WideRule(STAR, [])):
            with self.assertRaises(InvalidTree) as caught:
                ends(tree)
            self.assertIs(caught.exception.value, tree)


class OnWayTest(unittest.TestCase):
    def test_rules_and_orders_on_ways(self):
        for links in plain.TREES + plain.WIDER_TREES:
            size = len(links) + 1
            lets = plain.tree_lets(links)
            for step, (one, other) in enumerate(product(range(size), repeat=2)):
                order = plain.orders(size)[step * 5 % len(plain.orders(size))]
                for items in (lets, [], lets[step % 3::3], lets[::2]):
                    found = on_way(WideRule(Tree(links), items), order, one, other)
                    self.assertIsInstance(found, tuple)
                    rule, told = found
                    many, kept, renamed = plain_on_way(links, items, order, one, other)
                    self.assertEqual((rule.tree(), rule.lets(), told), (chain(many), kept, renamed))

    def test_from_the_other_end(self):
        rule = WideRule(chain(3), [(0, 1, []), (0, 2, [1])])
        self.assertEqual(on_way(rule, [1, 0, 2], 0, 2), (rule, [1, 0, 2]))
        self.assertEqual(on_way(rule, [1, 0, 2], 2, 0), (WideRule(chain(3), [(0, 2, [1]), (1, 2, [])]), [1, 2, 0]))
        self.assertEqual(on_way(rule, [1, 0, 2], 1, 2), (WideRule(chain(2), []), [0, 1]))
        self.assertEqual(on_way(rule, [1, 0, 2], 1, 1), (WideRule(chain(1), []), [0]))
        rule = WideRule(FORK, [(0, 3, []), (1, 3, [2]), (1, 3, [2, 4]), (2, 3, [4])])
        found = on_way(rule, [3, 0, 4, 2, 1], 3, 1)
        self.assertEqual(found, (WideRule(chain(4), [(0, 2, [1]), (0, 3, [1, 2]), (0, 3, [2])]), [0, 1, 2, 3]))

    def test_joined_exactly_if_joined_on_all_ways_between_ends(self):
        for links in plain.TREES:
            for items in plain.even_rules(links)[::1 + len(plain.even_rules(links)) // 9]:
                self.check(WideRule(Tree(links), items), plain.orders(len(links) + 1), 2)

    def test_ways_of_wider_trees(self):
        for links in plain.WIDER_TREES:
            lets = plain.tree_lets(links)
            for rule in (rule_by_counts(Tree(links), Lets([1])), even_above(WideRule(Tree(links), lets[1::4])),
                         even_above(WideRule(Tree(links), lets[::5]))):
                self.check(rule, plain.orders(5), 11)

    def check(self, rule, orders, step):
        tree = rule.tree()
        for one in orders[::step + 1]:
            for other in orders[::step]:
                told = []
                for first, last in product(ends(tree), repeat=2):
                    by, short = on_way(rule, one, first, last)
                    self.assertIs(is_even(by), True)
                    told.append(rule_joined(by, short, on_way(rule, other, first, last)[1])[0])
                self.assertEqual(rule_joined(rule, one, other)[0], "barred" if "barred" in told else "joined")

    def test_rules_that_are_not_even_are_taken(self):
        bent = WideRule(chain(3), [(0, 1, []), (0, 2, [1]), (1, 2, [])])
        self.assertEqual(on_way(bent, [2, 1, 0], 0, 2), (bent, [2, 1, 0]))

    def test_wrong_arguments(self):
        rule, order = rule_by_counts(STAR, Lets([1])), [1, 0, 2, 3]
        for wrong in (None, True, 0, [], (), {}, STAR, Lets([1])):
            for rest in ((order, 1, 3), (None, None, None), ([0], 9, True)):
                with self.assertRaises(InvalidRule) as caught:
                    on_way(wrong, *rest)
                self.assertIs(caught.exception.value, wrong)
        for wrong in (None, True, 0, [], [0, 1, 2], [0, 1, 2, 3, 4], (1, 0, 2, 3), [1, 0, 2, 2], [True, 0, 2, 3], rule):
            for rest in ((1, 3), (None, 9)):
                with self.assertRaises(InvalidOrder) as caught:
                    on_way(rule, wrong, *rest)
                self.assertIs(caught.exception.value, wrong)
        for wrong in (None, True, False, -1, 4, BIG, "1", [1], (1,), rule):
            for pair in ((wrong, 1), (wrong, None), (1, wrong)):
                with self.assertRaises(InvalidNumber) as caught:
                    on_way(rule, order, *pair)
                self.assertIs(caught.exception.value, wrong)

    def test_nothing_is_changed(self):
        order = [1, 0, 2]
        rule = rule_by_counts(chain(3), Lets([1]))
        on_way(rule, order, 0, 2)[1].append(9)
        self.assertEqual((order, on_way(rule, order, 0, 2)[1]), ([1, 0, 2], [1, 0, 2]))


if __name__ == "__main__":
    unittest.main()
