"""[50] and [51] Wide rules, and which of them are even."""

import unittest
from itertools import product

import plain
from gapswaps.errors import InvalidLets, InvalidList, InvalidRule, InvalidTree, Unlike
from gapswaps.lets import Lets
from gapswaps.trees import Tree, chain
from gapswaps.widerules import WideRule, even_above, first_fault, is_even, rule_by_counts, shared

BIG = 10 ** 29
THREE = chain(3)
BENT = [(0, 1, []), (0, 2, [1]), (1, 2, [])]
# Trees with rules of theirs: all of few lets, some of more.
SOME = [(links, items) for links in plain.TREES for items in plain.rules(links)[::1 + len(plain.rules(links)) // 90]]


def thinned(links, step):
    """Lists of some lets of a tree of more numbers."""
    lets = plain.tree_lets(links)
    return [[item for at, item in enumerate(lets) if (at * at + shift * at + shift) % 7 < many]
            for shift in range(step) for many in (1, 3, 5)]


class RuleTest(unittest.TestCase):
    def test_lets_are_what_was_told(self):
        for links, items in SOME:
            tree = Tree(links)
            rule = WideRule(tree, items)
            self.assertEqual((rule.tree(), rule.lets()), (tree, items))

    def test_all_lets_of_eight_numbers(self):
        for links in ([(at, at + 1) for at in range(7)], [(at, 7) for at in range(7)]):
            lets = plain.tree_lets(links)
            self.assertEqual(WideRule(Tree(links), lets).lets(), lets)
            self.assertEqual(WideRule(Tree(links), []).lets(), [])
        self.assertEqual(len(plain.tree_lets([(at, at + 1) for at in range(7)])), 247)

    def test_wrong_lists(self):
        wrong = [None, True, 0, "", (), ((0, 1, []),), {}, [None], [0], [()], [(0, 1)], [(0, 1, [], 0)], [[0, 1, []]],
                 [(1, 0, [])], [(0, 0, [])], [(0, 3, [])], [(-1, 0, [])], [(False, 1, [])], [(0, True, [])],
                 [(0, 2, None)], [(0, 2, (1,))], [(0, 2, ())], [(0, 2, 1)], [(0, 2, [0])], [(0, 2, [2])], [(0, 2, [3])],
                 [(0, 2, [1, 1])], [(0, 2, [True])], [(0, 2, ["1"])], [(0, 2, [-1])], [(0, 2, [BIG])], [(0, BIG, [])],
                 [(0, 1, [2])], [(0, 1, []), (0, 1, [])], [(0, 2, []), (0, 1, [])], [(0, 2, [1]), (0, 2, [])],
                 [(0, 1, []), None], [None, (0, 1, [])], [(0, 2, [[1]])], [("0", "1", [])], [([0], 1, [])], THREE,
                 Lets([1]), WideRule(THREE, []), [(0, 1, {})], [(0, 2, Lets([1]))], [(Lets([1]), 2, [])]]
        for items in wrong:
            with self.assertRaises(InvalidList) as caught:
                WideRule(THREE, items)
            self.assertIs(caught.exception.value, items)
        four = chain(4)
        for items in ([(0, 3, [2, 1])], [(0, 3, [1, 1])], [(0, 3, [1, 2, 2])], [(0, 2, [3])], [(0, 3, [0, 1])]):
            self.assertRaises(InvalidList, WideRule, four, items)
        star = Tree([(0, 1), (0, 2), (0, 3)])
        self.assertRaises(InvalidList, WideRule, star, [(1, 3, [2])])
        self.assertEqual(WideRule(star, [(1, 3, [0])]).lets(), [(1, 3, [0])])

    def test_wrong_trees(self):
        for tree in (None, True, 3, [], [(0, 1)], (), Lets([1]), WideRule(THREE, [])):
            for asked in (lambda: WideRule(tree, None), lambda: WideRule(tree, []), lambda: rule_by_counts(tree, None)):
                with self.assertRaises(InvalidTree) as caught:
                    asked()
                self.assertIs(caught.exception.value, tree)

    def test_lists_are_not_kept(self):
        lot, items = [1], []
        items.append((0, 2, lot))
        rule = WideRule(THREE, items)
        lot.append(2)
        items.append((1, 2, []))
        rule.lets()[0][2].append(5)
        rule.lets().clear()
        self.assertEqual(rule.lets(), [(0, 2, [1])])
        self.assertIsNot(rule.lets()[0][2], rule.lets()[0][2])

    def test_equal_rules(self):
        for one, other in product(SOME[:60:4], repeat=2):
            made = [WideRule(Tree(links), [(low, high, list(lot)) for low, high, lot in items]) for links, items in (one, other)]
            self.assertIs(made[0] == made[1], one == other)
            self.assertIs(made[0] != made[1], one != other)
        self.assertFalse(WideRule(chain(2), []) == WideRule(THREE, []))
        for other in (None, True, 0, [], BENT, THREE, Lets([1])):
            self.assertFalse(WideRule(THREE, BENT) == other)


class MadeRulesTest(unittest.TestCase):
    def test_rules_by_counts(self):
        for links in plain.TREES + plain.WIDER_TREES:
            for told in plain.GOOD + plain.NOT_GOOD:
                rule = rule_by_counts(Tree(links), Lets(*told))
                lets = [item for item in plain.tree_lets(links) if plain.has(told, len(item[2]))]
                self.assertEqual((rule.tree(), rule.lets()), (Tree(links), lets))
                if told in plain.GOOD:
                    self.assertIs(is_even(rule), True)
        self.assertIs(is_even(rule_by_counts(chain(5), Lets([1, 2]))), False)

    def test_rules_by_counts_wrong_sets(self):
        for lets in (None, True, 1, [1], (1,), {}, THREE, WideRule(THREE, [])):
            with self.assertRaises(InvalidLets) as caught:
                rule_by_counts(THREE, lets)
            self.assertIs(caught.exception.value, lets)

    def test_shared(self):
        for links in plain.TREES:
            rules = plain.rules(links)
            for one, other in product(rules[::1 + len(rules) // 12], rules[::-1 - len(rules) // 12]):
                found = shared(WideRule(Tree(links), one), WideRule(Tree(links), other))
                self.assertEqual((found.tree().links(), found.lets()), (links, [item for item in one if item in other]))

    def test_what_even_rules_share_is_even(self):
        for links in plain.TREES:
            rules = [WideRule(Tree(links), items) for items in plain.even_rules(links)]
            for one, other in product(rules[::1 + len(rules) // 25], rules[::-1 - len(rules) // 30]):
                self.assertIs(is_even(shared(one, other)), True)

    def test_shared_wrong_arguments(self):
        rule = WideRule(THREE, BENT)
        for wrong in (None, True, 0, [], BENT, (), {}, THREE, Lets([1])):
            for one, other in ((wrong, rule), (wrong, None), (rule, wrong)):
                with self.assertRaises(InvalidRule) as caught:
                    shared(one, other)
                self.assertIs(caught.exception.value, wrong)
        for other in (WideRule(chain(2), []), WideRule(chain(4), []), WideRule(Tree([(0, 1), (0, 2)]), [])):
            with self.assertRaises(Unlike) as caught:
                shared(rule, other)
            self.assertIs(caught.exception.value, other)


class FaultTest(unittest.TestCase):
    def test_faults_by_all_lets(self):
        uneven = 0
        for links, items in SOME:
            rule, faults = WideRule(Tree(links), items), plain.rule_faults(plain.told_rule(links, items))
            self.assertIs(is_even(rule), not faults)
            self.assertEqual(first_fault(rule), faults[0] if faults else None)
            uneven += bool(faults)
        self.assertGreater(uneven, 60)

    def test_faults_of_wider_trees(self):
        for links in plain.WIDER_TREES:
            for items in thinned(links, 9):
                rule, faults = WideRule(Tree(links), items), plain.rule_faults(plain.told_rule(links, items))
                self.assertIs(is_even(rule), not faults)
                self.assertEqual(first_fault(rule), faults[0] if faults else None)

    def test_edges(self):
        for links in plain.TREES + plain.WIDER_TREES:
            for items in ([], plain.tree_lets(links)):
                rule = WideRule(Tree(links), items)
                self.assertIs(is_even(rule), True)
                self.assertIsNone(first_fault(rule))
                self.assertEqual(even_above(rule), rule)
        self.assertEqual(repr(first_fault(WideRule(THREE, BENT))), "(0, 1, 2, [])")
        # The number between need not be between in size.
        self.assertEqual(first_fault(WideRule(Tree([(0, 2), (1, 2)]), [(0, 1, [2]), (0, 2, []), (1, 2, [])])), (0, 2, 1, []))

    def test_least_even_rules_above(self):
        for links in plain.TREES:
            even = plain.even_rules(links)
            masks = [{(low, high, tuple(lot)) for low, high, lot in items} for items in even]
            for items in plain.rules(links)[::1 + len(plain.rules(links)) // 120]:
                told = {(low, high, tuple(lot)) for low, high, lot in items}
                above = [(len(mask), at) for at, mask in enumerate(masks) if told <= mask]
                least = min(above)[1]
                found = even_above(WideRule(Tree(links), items))
                self.assertEqual((found.tree().links(), found.lets()), (links, even[least]))
                self.assertTrue(all(masks[least] <= masks[at] for _, at in above))

    def test_least_even_rules_above_in_wider_trees(self):
        for links in plain.WIDER_TREES:
            for items in thinned(links, 6):
                found = even_above(WideRule(Tree(links), items)).lets()
                told = plain.told_rule(links, found)
                self.assertEqual(plain.rule_faults(told), [])
                self.assertTrue(all(item in found for item in items))
                # What is put to it has to be there: without any of it some fault forces it, from what was there.
                grown, more = list(items), True
                while more:
                    faults = plain.rule_faults(plain.told_rule(links, grown))
                    more = [(low, high, sorted(lot + part)) for low, middle, high, lot in faults for part in ([], [middle])]
                    grown = sorted(grown + [item for at, item in enumerate(more) if item not in grown + more[:at]])
                self.assertEqual(found, grown)

    def test_wrong_rules(self):
        for wrong in (None, True, 0, [], BENT, (), {}, THREE, Lets([1]), "rule"):
            for asked in (is_even, first_fault, even_above):
                with self.assertRaises(InvalidRule) as caught:
                    asked(wrong)
                self.assertIs(caught.exception.value, wrong)

    def test_rules_stay_as_they_are(self):
        rule = WideRule(THREE, BENT)
        even_above(rule).lets().clear()
        first_fault(rule)[3].append(9)
        self.assertEqual((rule.lets(), first_fault(rule)), (BENT, (0, 1, 2, [])))


if __name__ == "__main__":
    unittest.main()
