"""[28] and [29] Wanted pairs."""

import unittest
from itertools import product

import plain
from gapswaps.errors import InvalidPairs
from gapswaps.lets import Lets
from gapswaps.wishes import fewest_deeds, granted, is_wish_ring, most_granted, needed_pairs, wish_ring

BIG = 10 ** 29


def some_wishes(length):
    """Lists of wishes: none, each one alone, and mixed ones that go through all numbers, with some twice."""
    two = [(one, other) for one in range(length) for other in range(length) if one != other]
    found = [[]] + [[wish] for wish in two]
    for step in range(1, len(two)):
        found.append([two[(3 * step + at * step) % len(two)] for at in range(2 + step % 4)])
    return found[:1] + found[1::1 + len(found) // 24] + [two * (200 // len(two)) if two else []]


def grants(order, wish):
    return order.index(wish[0]) < order.index(wish[1])


def all_cases():
    for told, classed in plain.some_classes()[::3]:
        for wishes in some_wishes(len(classed[0])):
            granting = [order for order in classed if all(grants(order, wish) for wish in wishes)]
            yield Lets(*told), classed, wishes, granting


CASES = list(all_cases())


class GrantedTest(unittest.TestCase):
    def test_the_first_that_grants_all(self):
        for lets, classed, wishes, granting in CASES:
            for order in (classed[0], classed[-1]):
                self.assertEqual(granted(lets, order, wishes), granting[0] if granting else None)

    def test_there_are_both_kinds_of_cases(self):
        many = len([granting for _, _, _, granting in CASES if granting])
        self.assertGreater(many, 1000)
        self.assertGreater(len(CASES) - many, 1000)

    def test_a_granting_order_or_a_ring_never_both(self):
        for lets, classed, wishes, granting in CASES:
            order = classed[-1]
            ring = wish_ring(lets, order, wishes)
            if granting:
                self.assertIsNone(ring)
            else:
                steps = plain.sure(classed) + wishes
                self.assertGreaterEqual(len(ring), 2)
                self.assertTrue(all((ring[at - 1], item) in steps for at, item in enumerate(ring)))
                self.assertIs(is_wish_ring(lets, order, wishes, ring), True)

    def test_all_rings(self):
        cases = [(told, classed) for told, classed in plain.some_classes() if len(classed[0]) == 4 and len(classed) > 1]
        for told, classed in cases[::2]:
            for wishes in ([(0, 3), (3, 0)], [(2, 0), (1, 3)], [(0, 1), (1, 2), (2, 3), (3, 0)], [(3, 0)]):
                steps = plain.sure(classed) + wishes
                for size in range(4):
                    for value in product(range(-1, 5), repeat=size):
                        is_ring = size > 1 and all((value[at - 1], item) in steps for at, item in enumerate(value))
                        self.assertIs(is_wish_ring(Lets(*told), classed[0], wishes, list(value)), is_ring)

    def test_rings_may_have_a_number_more_than_once(self):
        one, low = Lets([1]), [5, 2, 0, 1, 4, 3]
        wishes = [(0, 3), (3, 0)]
        self.assertIs(is_wish_ring(one, low, wishes, [0, 3, 0, 3]), True)
        self.assertIs(is_wish_ring(one, low, wishes, [3, 0] * 300), True)
        self.assertIs(is_wish_ring(one, low, wishes, [0, 3, 3]), False)
        self.assertIs(is_wish_ring(one, low, wishes, [0]), False)
        self.assertIs(is_wish_ring(one, low, wishes, []), False)
        # 4 is surely left of 3, but 0 and 4 are loose.
        self.assertIs(is_wish_ring(one, low, [(3, 0)], [0, 4, 3]), False)

    def test_rings_of_any_value(self):
        one, low = Lets([1]), [5, 2, 0, 1, 4, 3]
        for value in (None, True, 0, "03", (0, 3), {0: 3}, [0, True], [False, 3], [0, "3"], [0, None], [0, -3], [0, 6],
                      [0, BIG], [[0, 3]], [0, [3]], one, [0, (3,)]):
            self.assertIs(is_wish_ring(one, low, [(0, 3), (3, 0)], value), False, value)


class DeedsTest(unittest.TestCase):
    def test_needed_pairs(self):
        for lets, classed, wishes, granting in CASES:
            for order in (classed[0], classed[len(classed) // 2]):
                found = needed_pairs(lets, order, wishes)
                if not granting:
                    self.assertIsNone(found)
                else:
                    turned = [set(plain.unlike(order, other)) for other in granting]
                    self.assertEqual(found, sorted(set.intersection(*turned)))

    def test_fewest_deeds(self):
        for lets, classed, wishes, granting in CASES:
            for order in (classed[0], classed[len(classed) // 2]):
                found = fewest_deeds(lets, order, wishes)
                fars = [len(plain.unlike(order, other)) for other in granting]
                self.assertEqual(found, (min(fars), granting[fars.index(min(fars))]) if fars else None)

    def test_most_granted(self):
        for lets, classed, wishes, _ in CASES:
            counts = [len([wish for wish in wishes if grants(order, wish)]) for order in classed]
            found = most_granted(lets, classed[-1], wishes)
            self.assertEqual(found, (max(counts), classed[counts.index(max(counts))]))

    def test_a_wish_that_stands_twice_counts_twice(self):
        one, low = Lets([1]), [5, 2, 0, 1, 4, 3]
        self.assertEqual(most_granted(one, low, [(0, 3)] * 2 + [(3, 0)] * 2 + [(1, 4), (0, 3)]), (4, low))
        self.assertEqual(most_granted(one, low, [(0, 3), (3, 0), (3, 0)]), (2, [5, 2, 4, 3, 0, 1]))
        self.assertEqual(most_granted(one, low, [(2, 5)] * 200), (0, low))
        self.assertEqual(granted(one, low, [(3, 0)] * 200), [5, 2, 4, 3, 0, 1])


class EdgesTest(unittest.TestCase):
    def test_small_orders(self):
        for lets in (Lets([]), Lets([1]), Lets([], 1)):
            for order in ([], [0]):
                self.assertEqual((granted(lets, order, []), wish_ring(lets, order, [])), (order, None))
                self.assertEqual((needed_pairs(lets, order, []), fewest_deeds(lets, order, [])), ([], (0, order)))
                self.assertEqual(most_granted(lets, order, []), (0, order))
                self.assertIs(is_wish_ring(lets, order, [], []), False)
            self.assertEqual(wish_ring(lets, [1, 0], [(0, 1)]) in ([0, 1], [1, 0]), True)
            self.assertIsNone(granted(lets, [1, 0], [(0, 1)]))
            self.assertEqual(granted(lets, [1, 0], [(1, 0)]), [1, 0])

    def test_wrong_wishes(self):
        one, order = Lets([1]), [3, 4, 0, 1, 2]
        wrong = [None, True, 0, "", (), ((0, 1),), {}, [None], [0], [[0, 1]], ["01"], [()], [(0,)], [(0, 1, 2)], [(0, 0)],
                 [(0, 5)], [(5, 0)], [(0, -1)], [(True, 0)], [(0, False)], [(0, "1")], [(0, BIG)], [(0, None)], one,
                 [(0, 1), (1, 0), (1, 1)], [(0, 1)] * 201]
        for wishes in wrong:
            for asked in (granted, wish_ring, needed_pairs, fewest_deeds, most_granted):
                with self.assertRaises(InvalidPairs) as caught:
                    asked(one, order, wishes)
                self.assertIs(caught.exception.value, wishes)
            with self.assertRaises(InvalidPairs) as caught:
                is_wish_ring(one, order, wishes, None)
            self.assertIs(caught.exception.value, wishes)
        self.assertRaises(InvalidPairs, granted, one, [], [(0, 1)])
        self.assertRaises(InvalidPairs, granted, one, [0], [(0, 0)])


if __name__ == "__main__":
    unittest.main()
