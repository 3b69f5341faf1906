"""[48] The orders of a class that are nearest to an order."""

import unittest

import plain
from gapswaps.errors import InvalidLets, InvalidOrder, Unlike
from gapswaps.lets import Lets
from gapswaps.lines import marks
from gapswaps.nearest import nearest
from gapswaps.pairs import joined_numbered

BIG = 10 ** 29


def plain_nearest(classed, goal):
    """As a walk through the class finds it."""
    far = [len(plain.unlike(order, goal)) for order in classed]
    return (min(far), far.count(min(far)), classed[far.index(min(far))])


class NearestTest(unittest.TestCase):
    def test_all_small_orders(self):
        for told in plain.LEAN:
            lets = Lets(*told)
            for length in range(5):
                for classed in plain.order_classes(told, length):
                    for goal in plain.orders(length):
                        self.assertEqual(nearest(lets, classed[-1], goal), plain_nearest(classed, goal))

    def test_longer_orders(self):
        several = 0
        for told in plain.LEAN:
            lets = Lets(*told)
            for length, step in ((5, 5), (6, 97)):
                goals = plain.orders(length)[::17 * (length - 4)]
                for classed in plain.order_classes(told, length)[::step]:
                    for goal in goals:
                        found = nearest(lets, classed[0], goal)
                        self.assertEqual(found, plain_nearest(classed, goal))
                        several += found[1] > 1
        self.assertGreater(several, 20)

    def test_any_order_of_the_class_tells_the_same(self):
        one, goal = Lets([1]), [4, 3, 2, 1, 0]
        for order in plain.order_class(([1], None), [3, 0, 4, 1, 2]):
            self.assertEqual(nearest(one, list(order), goal), (4, 1, [3, 4, 0, 1, 2]))

    def test_a_goal_of_the_class_is_nearest_itself(self):
        for told in plain.LEAN:
            for classed in plain.order_classes(told, 5):
                for goal in (classed[0], classed[-1]):
                    self.assertEqual(nearest(Lets(*told), classed[len(classed) // 2], goal), (0, 1, goal))

    def test_edges(self):
        for lets in (Lets([]), Lets([1]), Lets([5])):
            self.assertEqual(nearest(lets, [], []), (0, 1, []))
            self.assertEqual(nearest(lets, [0], [0]), (0, 1, [0]))
            self.assertEqual(nearest(lets, [0, 1], [1, 0]), (1, 1, [0, 1]))
        self.assertEqual(nearest(Lets([]), [1, 0, 2], [2, 1, 0]), (2, 1, [1, 0, 2]))
        # Two pieces, in each of which both orders are as near.
        order, goal = [4, 3, 5, 1, 0, 2], [0, 1, 2, 3, 4, 5]
        self.assertEqual(nearest(Lets([1]), order, goal), (11, 1, order))

    def test_kinds(self):
        found = nearest(Lets([1]), [3, 0, 4, 1, 2], [4, 3, 2, 1, 0])
        self.assertEqual(repr(found), "(4, 1, [3, 4, 0, 1, 2])")

    def test_what_is_returned_is_new(self):
        order, goal = [1, 0, 2], [1, 0, 2]
        found = nearest(Lets([1]), order, goal)[2]
        found.append(3)
        self.assertEqual((order, goal), ([1, 0, 2], [1, 0, 2]))
        self.assertEqual(nearest(Lets([1]), order, goal), (0, 1, [1, 0, 2]))

    def test_sets_that_are_not_lean(self):
        for told in plain.NOT_GOOD + plain.GOOD[len(plain.LEAN):]:
            lets = Lets(*told)
            for order in ([0, 1], None, [1]):
                with self.assertRaises(InvalidLets) as caught:
                    nearest(lets, order, True)
                self.assertIs(caught.exception.value, lets)

    def test_wrong_orders(self):
        one = Lets([1])
        for wrong in (None, True, 0, (0, 1), [1], [0, 0], [0, True], "01", list(range(201)), one):
            for arguments in ((one, wrong, [0, 1]), (one, wrong, None), (one, [0, 1], wrong)):
                with self.assertRaises(InvalidOrder) as caught:
                    nearest(*arguments)
                self.assertIs(caught.exception.value, wrong)
        for goal in ([], [0], [0, 1, 2]):
            with self.assertRaises(Unlike) as caught:
                nearest(one, [0, 1], goal)
            self.assertIs(caught.exception.value, goal)

    def test_marks_tell_the_nearest(self):
        """In one piece, the pairs that stand otherwise than in a goal of the class are as many as the marks differ."""
        one, order = Lets([1]), [4, 0, 1, 2, 3, 8, 7, 6, 5]
        goal = joined_numbered(one, order, 40)
        differ = sum(abs(mark - other) for some, others in zip(marks(one, order), marks(one, goal))
                     for mark, other in zip(some, others))
        self.assertEqual(len(plain.unlike(order, goal)), differ)
        self.assertEqual(nearest(one, order, goal), (0, 1, goal))


if __name__ == "__main__":
    unittest.main()
