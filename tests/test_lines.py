"""[44], [45] Pieces of two lines, and marks."""

import unittest
from itertools import combinations, product

import plain
from gapswaps.errors import InvalidList
from gapswaps.lets import Lets
from gapswaps.lines import bounds, marked, marks, pieces
from gapswaps.orders import places_of

BIG = 10 ** 29
CLASSES = [(told, classed) for told in plain.LEAN for length in range(6) for classed in plain.order_classes(told, length)]
CLASSES += [(told, classed) for told in (([1], None), ([2, 3], None)) for classed in plain.order_classes(told, 6)[::3]]


def free_pairs(classed):
    kept = plain.sure(classed)
    return [(low, high) for low, high in plain.pairs(len(classed[0]))
            if (low, high) not in kept and (high, low) not in kept]


def grouped(classed):
    """The sets of numbers that free pairs lead to one another."""
    groups = {item: {item} for item in classed[0]}
    for low, high in free_pairs(classed):
        both = groups[low] | groups[high]
        for item in both:
            groups[item] = both
    return groups


class PiecesTest(unittest.TestCase):
    def test_no_three_are_free_in_each_two(self):
        for _, classed in CLASSES:
            free = free_pairs(classed)
            for one, two, three in combinations(range(len(classed[0])), 3):
                self.assertFalse((one, two) in free and (one, three) in free and (two, three) in free)

    def test_pieces(self):
        for told, classed in CLASSES:
            free, groups = free_pairs(classed), grouped(classed)
            for order in classed[::1 + len(classed) // 3]:
                found = pieces(Lets(*told), order)
                at = 0
                for first, second in found:
                    members = set(first + second)
                    self.assertEqual(members, groups[first[0]])
                    # The numbers of a piece stand side by side, and the pieces as they are told.
                    self.assertEqual(set(order[at:at + len(members)]), members)
                    at += len(members)
                    self.assertIn(min(members), first)
                    self.assertTrue(second or len(members) == 1)
                    for line in (first, second):
                        self.assertEqual([item for item in order if item in line], line)
                        self.assertFalse(any(pair in free for pair in combinations(sorted(line), 2)))
                self.assertEqual(at, len(order))

    def test_pieces_are_those_of_the_class(self):
        for told, classed in CLASSES:
            lets = Lets(*told)
            for order in classed[1:4]:
                self.assertEqual(pieces(lets, order), pieces(lets, classed[0]))
                self.assertEqual(bounds(lets, order), bounds(lets, classed[0]))

    def test_kinds(self):
        found = pieces(Lets([1]), [3, 0, 4, 1, 2])
        self.assertIsInstance(found[0], tuple)
        self.assertEqual([pieces(Lets([1]), []), marks(Lets([1]), []), bounds(Lets([1]), [])], [[], [], []])
        self.assertEqual(pieces(Lets([1]), [0]), [([0], [])])
        self.assertEqual(pieces(Lets([]), [1, 0, 2]), [([1], []), ([0], []), ([2], [])])
        self.assertEqual(pieces(Lets([1]), [1, 2, 0]), [([1], []), ([0], [2])])


class MarksTest(unittest.TestCase):
    def test_marks(self):
        for told, classed in CLASSES:
            lets = Lets(*told)
            for order in classed[::1 + len(classed) // 4]:
                at = places_of(order)
                expected = [[len([item for item in second if at[item] < at[number]]) for number in first]
                            for first, second in pieces(lets, order)]
                self.assertEqual(marks(lets, order), expected)
                for told_marks in expected:
                    self.assertEqual(told_marks, sorted(told_marks))
                self.assertEqual(marked(lets, classed[0], expected), order)

    def test_bounds(self):
        for told, classed in CLASSES:
            lets = Lets(*told)
            found = [marks(lets, order) for order in classed]
            expected = [
                [(min(told[at][number] for told in found), max(told[at][number] for told in found))
                 for number in range(len(found[0][at]))] for at in range(len(found[0]))
            ]
            self.assertEqual(bounds(lets, classed[-1]), expected)

    def test_all_marks_within_the_bounds_are_those_of_an_order(self):
        for told, classed in CLASSES:
            lets = Lets(*told)
            each = []
            for limits in bounds(lets, classed[0]):
                ranges = [range(low, high + 1) for low, high in limits]
                each.append([list(some) for some in product(*ranges) if list(some) == sorted(some)])
            found = [marked(lets, classed[0], list(value)) for value in product(*each)]
            self.assertEqual(sorted(found), classed)

    def test_the_fewest_deeds_are_the_differences_of_the_marks(self):
        for told, classed in CLASSES:
            lets = Lets(*told)
            one = marks(lets, classed[0])
            for other in classed[::1 + len(classed) // 5]:
                apart = sum(abs(a - b) for first, second in zip(one, marks(lets, other)) for a, b in zip(first, second))
                self.assertEqual(apart, plain.order_class(told, classed[0])[tuple(other)])

    def test_wrong_marks(self):
        one, order = Lets([1]), [3, 0, 4, 1, 2]
        wrong = [None, True, 3, "", (), ([0], [0, 0, 1]), {}, one, [], [[0]], [[0], [0, 0, 1], []], [[0], [0, 0]],
                 [[0], [0, 0, 1, 1]], [[0], [0, 1, 0]], [[0], [1, 0, 0]], [[1], [0, 0, 1]], [[0], [0, 0, 2]],
                 [[-1], [0, 0, 1]], [[0], [-1, 0, 1]], [[False], [0, 0, 1]], [[0], [0, 0, True]], [[0], (0, 0, 1)],
                 [0, [0, 0, 1]], [[0], None], [[0], [0, 0, None]], [[0], [0, 0, "1"]], [[None], [0, 0, 1]],
                 [[0], [0, 0, BIG]], [[0, 0], [0, 1]], [[], [0, 0, 1]], [[0], "001"], [[0], [[0], 0, 1]]]
        for value in wrong:
            with self.assertRaises(InvalidList) as caught:
                marked(one, order, value)
            self.assertIs(caught.exception.value, value)
        self.assertEqual(marked(one, [], []), [])
        self.assertRaises(InvalidList, marked, one, [], [[]])
        self.assertRaises(InvalidList, marked, one, [0], [])
        self.assertRaises(InvalidList, marked, one, [0], [[1]])
        self.assertEqual(marked(one, [0], [[0]]), [0])


if __name__ == "__main__":
    unittest.main()
