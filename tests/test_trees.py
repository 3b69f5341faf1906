"""[49] Trees of numbers."""

import unittest
from itertools import combinations, product

import plain
from gapswaps.errors import InvalidList, InvalidNumber, InvalidTree
from gapswaps.lets import Lets
from gapswaps.trees import Tree, between, chain

BIG = 10 ** 29
EIGHT = [
    [(at, at + 1) for at in range(7)], [(0, at) for at in range(1, 8)], [(at, 7) for at in range(7)],
    [(0, 4), (1, 4), (2, 5), (3, 5), (4, 6), (5, 6), (6, 7)], [(0, 7), (1, 7), (2, 6), (3, 6), (4, 5), (5, 6), (5, 7)],
]


def is_tree(links, size):
    """Whether each number is led to each other one, by trying all ways."""
    return all(plain.tree_way(links, 0, number) is not None for number in range(size))


class TreeTest(unittest.TestCase):
    def test_all_small_trees(self):
        """The trees of n numbers are n ** (n - 2)."""
        for size, many in ((1, 1), (2, 1), (3, 3), (4, 16), (5, 125)):
            found = 0
            for links in combinations(plain.pairs(size), size - 1):
                links = list(links)
                if is_tree(links, size):
                    tree = Tree(links)
                    self.assertEqual((tree.size(), tree.links()), (size, links))
                    found += 1
                else:
                    with self.assertRaises(InvalidList) as caught:
                        Tree(links)
                    self.assertIs(caught.exception.value, links)
            self.assertEqual(found, many)

    def test_trees_of_eight(self):
        for links in EIGHT:
            self.assertEqual((Tree(links).size(), Tree(links).links()), (8, links))
        self.assertEqual(len(Tree(EIGHT[0]).links()), 7)

    def test_links_out_of_order_and_other_wrong_lists(self):
        wrong = [None, True, 0, 1, "", "01", (), ((0, 1),), {}, {(0, 1): True}, [None], [True], [0], [()], [(0,)], [(1, 0)],
                 [(0, 0)], [(0, 2)], [(1, 2)], [[0, 1]], [(False, 1)], [(0, True)], [(0, 1, 2)], [("0", "1")], [(0, -1)],
                 [(-1, 0)], [(0, 1), (0, 1)], [(1, 2), (0, 1)], [(0, 2), (0, 1)], [(0, 1), (2, 3)], [(0, 1), (0, 3)],
                 [(0, 1), (0, 2), (1, 2)], [(0, 1), None], [(0, 1), (1, BIG)], [(0, BIG)], [([0], 1)], [(None, 1)],
                 [(0, 1), (0, 1), (2, 3)], [(0, 1), (1, 2), (1, 2)], [(at, at + 1) for at in range(8)],
                 [(0, at) for at in range(1, 9)], [(0, 1)] * 7, chain(2), Lets([1]), [[(0, 1)]], [Lets([1])]]
        for links in wrong:
            with self.assertRaises(InvalidList) as caught:
                Tree(links)
            self.assertIs(caught.exception.value, links)

    def test_the_list_is_not_kept(self):
        links = [(0, 1), (1, 2)]
        tree = Tree(links)
        links.append((2, 3))
        tree.links().pop()
        self.assertEqual((tree.links(), tree.size()), ([(0, 1), (1, 2)], 3))
        self.assertIsNot(tree.links(), tree.links())
        self.assertEqual((Tree([]).links(), Tree([]).size()), ([], 1))

    def test_equal_trees(self):
        for one, other in product(plain.TREES, repeat=2):
            self.assertIs(Tree(one) == Tree(list(other)), one == other)
            self.assertIs(Tree(one) != Tree(list(other)), one != other)
        for other in (None, True, 1, [], [(0, 1)], ((0, 1),), Lets([1]), "Tree"):
            self.assertFalse(Tree([(0, 1)]) == other)
        self.assertFalse(Tree([]) == Lets([]))


class ChainTest(unittest.TestCase):
    def test_chains(self):
        for size in range(1, 9):
            self.assertEqual(chain(size).links(), [(at, at + 1) for at in range(size - 1)])
            self.assertEqual(chain(size), Tree([(at, at + 1) for at in range(size - 1)]))
        self.assertEqual(chain(1), Tree([]))

    def test_wrong_sizes(self):
        for size in (None, True, False, 0, 9, -1, BIG, -BIG, "1", [1], (1,), {}, chain(1), Lets([1])):
            with self.assertRaises(InvalidNumber) as caught:
                chain(size)
            self.assertIs(caught.exception.value, size)


class BetweenTest(unittest.TestCase):
    def test_the_way_from_one_to_the_other(self):
        for links in plain.TREES + plain.WIDER_TREES + EIGHT:
            tree, size = Tree(links), len(links) + 1
            for one, other in product(range(size), repeat=2):
                found = between(tree, one, other)
                self.assertEqual(found, plain.tree_between(links, one, other))
                self.assertEqual(found, between(tree, other, one))
                found.append("changed")
                self.assertEqual(between(tree, one, other), plain.tree_between(links, one, other))

    def test_chains_and_stars(self):
        self.assertEqual(between(chain(8), 7, 0), [1, 2, 3, 4, 5, 6])
        self.assertEqual(between(chain(8), 3, 3), [])
        self.assertEqual(between(Tree(EIGHT[1]), 7, 2), [0])
        self.assertEqual(between(Tree(EIGHT[2]), 0, 6), [7])
        self.assertEqual(between(Tree(EIGHT[2]), 0, 7), [])
        self.assertEqual(between(chain(1), 0, 0), [])
        # In order, not as they are linked.
        self.assertEqual(between(Tree([(0, 3), (1, 2), (1, 4), (2, 3)]), 0, 4), [1, 2, 3])

    def test_wrong_arguments(self):
        three = chain(3)
        for tree in (None, True, 0, [], [(0, 1)], (), {}, "chain", Lets([1])):
            for one, other in ((0, 1), (None, None), (9, True)):
                with self.assertRaises(InvalidTree) as caught:
                    between(tree, one, other)
                self.assertIs(caught.exception.value, tree)
        for wrong in (None, True, False, -1, 3, BIG, "0", [0], (0,), three):
            for arguments in ((three, wrong, 0), (three, wrong, None), (three, 0, wrong)):
                with self.assertRaises(InvalidNumber) as caught:
                    between(*arguments)
                self.assertIs(caught.exception.value, wrong)


if __name__ == "__main__":
    unittest.main()
