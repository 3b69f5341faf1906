"""[54] Classes of orders by a wide rule."""

import unittest

import plain
from gapswaps.errors import InvalidList, InvalidOrder, InvalidRule
from gapswaps.lets import Lets
from gapswaps.trees import Tree, chain
from gapswaps.wideclasses import first_lots, how_many_wide_classes, how_many_wide_joined, kept_pairs
from gapswaps.widerules import WideRule, even_above, rule_by_counts

BIG = 10 ** 29
ONES = rule_by_counts(chain(3), Lets([1]))
BENT = WideRule(chain(3), [(0, 1, []), (0, 2, [1]), (1, 2, [])])
EVEN = [(links, items) for links in plain.TREES
        for items in plain.even_rules(links)[::1 + len(plain.even_rules(links)) // 40]]


def wider_rules():
    """Even rules of trees of five numbers."""
    for links in plain.WIDER_TREES:
        lets = plain.tree_lets(links)
        for told in ([], lets, lets[1::4], lets[::5], lets[2::6]):
            yield links, even_above(WideRule(Tree(links), told)).lets()
        for told in (([1], None), ([], 1), ([2], None)):
            yield links, rule_by_counts(Tree(links), Lets(*told)).lets()


WIDER = list(wider_rules())


def plain_first_lots(told, lot):
    rest = [number for number in range(len(told[0]) + 1) if number not in lot]
    return sorted(part for part in plain.subsets(rest) if part and all(
        plain.rule_has(told, low, high, lot) for low in part for high in part if low < high))


def classes_behind(told, lot):
    """Into how many classes the orders fall that begin with a lot, if deeds are done only behind it."""
    def deeds(rule, order):
        return [(at, behind) for at, behind in plain.rule_deeds(rule, order) if at >= len(lot)]
    found, seen = 0, set()
    for order in plain.orders(len(told[0]) + 1):
        if order[:len(lot)] == lot and tuple(order) not in seen:
            seen.update(plain.reached(deeds, told, order))
            found += 1
    return found


class ClassTest(unittest.TestCase):
    def test_kept_pairs_and_joined_orders(self):
        for links, items in EVEN + WIDER:
            rule, told = WideRule(Tree(links), items), plain.told_rule(links, items)
            for classed in plain.rule_classes(told):
                kept = plain.sure(classed)
                for order in classed[::1 + len(classed) // 3]:
                    self.assertEqual(kept_pairs(rule, order), kept)
                    self.assertEqual(how_many_wide_joined(rule, order), len(classed))

    def test_just_the_joined_orders_keep_all_pairs(self):
        for links, items in EVEN[::3] + WIDER[::3]:
            rule, told = WideRule(Tree(links), items), plain.told_rule(links, items)
            for classed in plain.rule_classes(told)[::4]:
                kept = kept_pairs(rule, classed[-1])
                for order in plain.orders(len(links) + 1):
                    keeps = all(order.index(one) < order.index(other) for one, other in kept)
                    self.assertIs(keeps, order in classed)

    def test_edges(self):
        single = WideRule(chain(1), [])
        self.assertEqual((kept_pairs(single, [0]), how_many_wide_joined(single, [0])), ([], 1))
        whole = WideRule(chain(3), plain.tree_lets([(0, 1), (1, 2)]))
        self.assertEqual((kept_pairs(whole, [2, 1, 0]), how_many_wide_joined(whole, [2, 1, 0])), ([], 6))
        none = WideRule(chain(3), [])
        self.assertEqual((kept_pairs(none, [2, 0, 1]), how_many_wide_joined(none, [2, 0, 1])), ([(0, 1), (2, 0), (2, 1)], 1))
        kept_pairs(ONES, [1, 0, 2]).append(9)
        self.assertEqual(kept_pairs(ONES, [1, 0, 2]), [(1, 0), (1, 2)])

    def test_as_by_the_counts_of_rows_of_people(self):
        """A chain with a rule by counts is what the sets of counts are for orders."""
        from gapswaps.pairs import how_many_joined, sure_pairs
        for told in plain.GOOD:
            rule = rule_by_counts(chain(6), Lets(*told))
            for order in plain.orders(6)[::61]:
                self.assertEqual(kept_pairs(rule, order), sure_pairs(Lets(*told), order))
                self.assertEqual(how_many_wide_joined(rule, order), how_many_joined(Lets(*told), order))


class LotsTest(unittest.TestCase):
    def test_first_lots(self):
        for links, items in EVEN + WIDER:
            rule, told = WideRule(Tree(links), items), plain.told_rule(links, items)
            for lot in plain.subsets(range(len(links) + 1)):
                self.assertEqual(first_lots(rule, lot), plain_first_lots(told, lot))

    def test_classes_counted(self):
        for links, items in EVEN[::2] + WIDER:
            rule, told = WideRule(Tree(links), items), plain.told_rule(links, items)
            size = len(links) + 1
            self.assertEqual(how_many_wide_classes(rule, []), len(plain.rule_classes(told)))
            for lot in plain.subsets(range(size))[::1 if size < 5 else 3]:
                self.assertEqual(how_many_wide_classes(rule, lot), classes_behind(told, lot))

    def test_edges(self):
        single = WideRule(chain(1), [])
        self.assertEqual((first_lots(single, []), first_lots(single, [0])), ([[0]], []))
        self.assertEqual((how_many_wide_classes(single, []), how_many_wide_classes(single, [0])), (1, 1))
        for links in plain.TREES:
            size = len(links) + 1
            none, whole = WideRule(Tree(links), []), WideRule(Tree(links), plain.tree_lets(links))
            numbers = list(range(size))
            self.assertEqual((first_lots(none, numbers), first_lots(whole, numbers)), ([], []))
            self.assertEqual((how_many_wide_classes(none, numbers), how_many_wide_classes(whole, numbers)), (1, 1))
            self.assertEqual(first_lots(none, []), [[number] for number in numbers])
            self.assertEqual(len(first_lots(whole, [])), 2 ** size - 1)
            self.assertEqual((how_many_wide_classes(none, []), how_many_wide_classes(whole, [])), (len(plain.orders(size)), 1))

    def test_nothing_is_changed(self):
        lot = [1]
        found = first_lots(ONES, lot)
        found[0].append(9)
        found.clear()
        self.assertEqual((lot, first_lots(ONES, lot), how_many_wide_classes(ONES, lot)), ([1], [[0], [0, 2], [2]], 1))


class WrongArgumentsTest(unittest.TestCase):
    def test_rules_that_are_not_even(self):
        for rule in (BENT, None, True, 0, [], (), {}, chain(3), Lets([1])):
            for asked in (kept_pairs, how_many_wide_joined, first_lots, how_many_wide_classes):
                for thing in ([0, 1, 2], [], None, [9], True):
                    with self.assertRaises(InvalidRule) as caught:
                        asked(rule, thing)
                    self.assertIs(caught.exception.value, rule)

    def test_orders(self):
        for order in (None, True, 0, [], [0, 1], [0, 1, 2, 3], (0, 1, 2), [0, 0, 1], [0, True, 2], "012", ONES):
            for asked in (kept_pairs, how_many_wide_joined):
                with self.assertRaises(InvalidOrder) as caught:
                    asked(ONES, order)
                self.assertIs(caught.exception.value, order)

    def test_lots(self):
        for lot in (None, True, 0, (), (0, 1), {}, [None], [True], [False], [-1], [3], [BIG], [1, 0], [0, 0], [0, 1, 2, 2],
                    [[0]], ["0"], [0, 1, 3], "01", ONES, [ONES]):
            for asked in (first_lots, how_many_wide_classes):
                with self.assertRaises(InvalidList) as caught:
                    asked(ONES, lot)
                self.assertIs(caught.exception.value, lot)


if __name__ == "__main__":
    unittest.main()
