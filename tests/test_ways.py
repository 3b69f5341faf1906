"""[18] to [22] Shortest ways."""

import unittest

import plain
from gapswaps.errors import InvalidNumber, InvalidPairs, Unlike
from gapswaps.lets import Lets
from gapswaps.ways import (
    between_numbered, distance, farthest_two, how_many_between, how_many_between_at, how_many_ways, next_places,
    stands_between, turned_first, unlike_pairs, way_number, way_numbered,
)

BIG = 10 ** 29
NO_COUNTS = [None, True, False, -1, "0", [0], (0,), {}, Lets([1])]


def joined_twos(told, length, step):
    """Some tuples of two joined orders: those with the one farthest off, and others."""
    found = []
    for order in plain.orders(length)[::step]:
        classed = plain.order_class(told, order)
        far = max(classed.values())
        some = sorted(list(other) for other in classed if classed[other] in (far, far - 2, 1))
        found += [(order, other) for other in [order] + some[:6]]
    return found


CASES = [
    (told, one, other)
    for told, length, step in (
        (([1], None), 0, 1), (([], 1), 1, 1), (([], 1), 4, 1), (([1], None), 4, 2), (([], 1), 5, 5), (([1], None), 5, 9),
        (([], 2), 5, 11), (([2], None), 5, 13), (([1], 4), 5, 17), (([], 1), 6, 151), (([2, 3], None), 6, 97))
    for one, other in joined_twos(told, length, step)
]


class UnlikePairsTest(unittest.TestCase):
    def test_unlike_pairs(self):
        for length in range(5):
            for one in plain.orders(length):
                for other in plain.orders(length):
                    self.assertEqual(unlike_pairs(one, other), plain.unlike(one, other))
        self.assertEqual(len(unlike_pairs(list(range(200)), list(range(199, -1, -1)))), 19900)

    def test_unlike(self):
        for one, other in (([], [0]), ([0, 1], [0]), ([0], [1, 0])):
            with self.assertRaises(Unlike) as caught:
                unlike_pairs(one, other)
            self.assertIs(caught.exception.value, other)


class ShortestWaysTest(unittest.TestCase):
    def test_distance_and_next_places(self):
        for told, one, other in CASES:
            lets = Lets(*told)
            far = plain.order_class(told, one)[tuple(other)]
            self.assertEqual(distance(lets, one, other), far)
            self.assertEqual(far, len(plain.unlike(one, other)))
            ways = plain.exchange_ways(one, other)
            self.assertEqual(next_places(lets, one, other), sorted(set(way[0] for way in ways if way)))

    def test_shortest_ways_are_let_and_numbered_in_order(self):
        for told, one, other in CASES:
            lets = Lets(*told)
            ways = plain.exchange_ways(one, other)
            self.assertEqual(ways, plain.let_ways(told, one, other, len(ways[0])) if len(one) < 6 else ways)
            self.assertEqual(how_many_ways(lets, one, other), len(ways))
            for number in range(0, len(ways), 1 + len(ways) // 12):
                self.assertEqual(way_numbered(lets, one, other, number), ways[number])
                self.assertEqual(way_number(lets, one, other, ways[number]), number)
            for number in (len(ways), len(ways) + 1, BIG):
                with self.assertRaises(InvalidNumber) as caught:
                    way_numbered(lets, one, other, number)
                self.assertEqual(caught.exception.value, number)

    def test_way_number_of_any_value(self):
        one, low, high = Lets([1]), [5, 2, 0, 1, 4, 3], [5, 2, 4, 3, 0, 1]
        for value in (None, True, 3, "3243", (3, 2, 4, 3), [], [3], [3, 2, 4], [3, 2, 4, 3, 3], [3, 2, 3, 4],
                      [3, 2, 4, "3"], [3, 2, 4, 3, 2, 2], [0, 0, 3, 2, 4, 3], [3, 3, 3, 2, 4, 3], {}, one,
                      [3, 2, 4, [3]], [-3, 2, 4, 3], [3, 2, 4, BIG]):
            self.assertIsNone(way_number(one, low, high, value), value)
        self.assertEqual(way_number(one, low, high, [3, 4, 2, 3]), 1)
        self.assertEqual(way_number(one, low, low, []), 0)
        self.assertIsNone(way_number(one, low, low, [3, 3]))
        # A Boolean is no place, though it equals one.
        self.assertEqual(way_number(one, [1, 0, 2], [1, 2, 0], [1]), 0)
        self.assertIsNone(way_number(one, [1, 0, 2], [1, 2, 0], [True]))

    def test_what_is_wrong_is_told_at_once(self):
        """Also where there are far too many orders to count the ways."""
        low = [99] + list(range(99)) + list(range(198, 99, -1))
        high = [99] + list(range(198, 99, -1)) + list(range(99))
        for value in (None, [0], [99] * 9801, []):
            self.assertIsNone(way_number(Lets([1]), low, high, value))
        for number in NO_COUNTS:
            self.assertRaises(InvalidNumber, way_numbered, Lets([1]), low, high, number)

    def test_turned_first(self):
        for told, one, other in CASES:
            unlike = plain.unlike(one, other)
            ways = plain.exchange_ways(one, other)
            if len(ways) < 200:
                turned = [self.pairs_of(one, way) for way in ways]
                for first in unlike:
                    for second in unlike:
                        if first != second:
                            always = all(pairs.index(first) < pairs.index(second) for pairs in turned)
                            self.assertIs(turned_first(Lets(*told), one, other, first, second), always)

    def pairs_of(self, one, way):
        found = []
        for order, at in zip(plain.orders_along(one, way), way):
            found.append((min(order[at:at + 2]), max(order[at:at + 2])))
        return found

    def test_turned_first_refused(self):
        one, low, high = Lets([1]), [5, 2, 0, 1, 4, 3], [5, 2, 4, 3, 0, 1]
        wrong = [None, True, 3, "03", [0, 3], (), (0,), (0, 3, 4), (3, 0), (0, 1), (2, 5), (0, 0), (0, 6), (-1, 3),
                 (False, 3), (0, "3"), (None, None), {}, one, (BIG, BIG + 1), ([0], [3])]
        for pair in wrong:
            for behind in ((1, 4), None, pair):
                with self.assertRaises(InvalidPairs) as caught:
                    turned_first(one, low, high, pair, behind)
                self.assertIs(caught.exception.value, pair)
        for pair in wrong + [(0, 3)]:
            with self.assertRaises(InvalidPairs) as caught:
                turned_first(one, low, high, (0, 3), pair)
            self.assertIs(caught.exception.value, pair)
        self.assertRaises(InvalidPairs, turned_first, one, low, low, (0, 3), (1, 4))

    def test_other_lists_turn_unlike_pairs_an_odd_number_of_times(self):
        told = ([], 1)
        for one in plain.orders(4)[::2]:
            walks = [(one, [])]
            for _ in range(4):
                for order, turned in walks:
                    unlike = unlike_pairs(one, order)
                    self.assertEqual(unlike, sorted(pair for pair in set(turned) if turned.count(pair) % 2))
                    self.assertEqual(distance(Lets(*told), one, order), len(unlike))
                walks = [
                    (behind, turned + [(min(order[at:at + 2]), max(order[at:at + 2]))])
                    for order, turned in walks for at, behind in plain.order_deeds(told, order)
                ]


class BetweenTest(unittest.TestCase):
    def test_orders_between(self):
        for told, one, other in CASES:
            lets = Lets(*told)
            between = set()
            for way in plain.exchange_ways(one, other):
                between.update(tuple(order) for order in plain.orders_along(one, way))
            between = sorted(list(order) for order in between)
            self.assertEqual(how_many_between(lets, one, other), len(between))
            for number, order in enumerate(between):
                self.assertEqual(between_numbered(lets, one, other, number), order)
            for number in (len(between), len(between) + 3, BIG):
                with self.assertRaises(InvalidNumber) as caught:
                    between_numbered(lets, one, other, number)
                self.assertEqual(caught.exception.value, number)
            fars = [len(plain.unlike(one, order)) for order in between]
            for far in list(range(max(fars) + 3)) + [BIG]:
                self.assertEqual(how_many_between_at(lets, one, other, far), fars.count(far))
            for order in plain.orders(len(one))[::1 if len(one) < 6 else 7]:
                self.assertIs(stands_between(lets, one, other, order), order in between)

    def test_any_value(self):
        one, low, high = Lets([1]), [5, 2, 0, 1, 4, 3], [5, 2, 4, 3, 0, 1]
        for value in (None, True, 3, "520143", tuple(low), [], [0], [5, 2, 0, 1, 4], [5, 2, 0, True, 4, 3], {}, one,
                      [5, 2, 0, 1, 4, 4], [6] + low, low + [6], [5, 2, 0, 1, 4, [3]], [2, 5, 0, 1, 4, 3], [None] * 6):
            self.assertIs(stands_between(one, low, high, value), False, value)
        self.assertIs(stands_between(one, low, high, low), True)
        self.assertIs(stands_between(one, low, high, high), True)

    def test_wrong_numbers(self):
        one, low, high = Lets([1]), [5, 2, 0, 1, 4, 3], [5, 2, 4, 3, 0, 1]
        for number in NO_COUNTS:
            for function in (between_numbered, how_many_between_at, way_numbered):
                with self.assertRaises(InvalidNumber) as caught:
                    function(one, low, high, number)
                self.assertIs(caught.exception.value, number)

    def test_one_and_the_same_order(self):
        for order in ([], [0], [1, 0, 2], list(range(200))):
            one = Lets([1])
            self.assertEqual((distance(one, order, order), next_places(one, order, order)), (0, []))
            self.assertEqual((how_many_between(one, order, order), how_many_ways(one, order, order)), (1, 1))
            self.assertEqual((between_numbered(one, order, order, 0), way_numbered(one, order, order, 0)), (order, []))
            self.assertEqual([how_many_between_at(one, order, order, far) for far in range(3)], [1, 0, 0])

    def test_orders_have_to_be_joined(self):
        one = Lets([1])
        asked = [
            lambda order, other: distance(one, order, other), lambda order, other: next_places(one, order, other),
            lambda order, other: stands_between(one, order, other, None),
            lambda order, other: how_many_between(one, order, other),
            lambda order, other: between_numbered(one, order, other, None),
            lambda order, other: how_many_between_at(one, order, other, None),
            lambda order, other: how_many_ways(one, order, other),
            lambda order, other: way_numbered(one, order, other, None),
            lambda order, other: way_number(one, order, other, None),
            lambda order, other: turned_first(one, order, other, None, None),
        ]
        for order, other in (([0, 1], [1, 0]), ([], [0]), ([0, 1], [0]), ([1, 0, 2], [0, 1, 2]), ([0], [1, 0])):
            for ask in asked:
                with self.assertRaises(Unlike) as caught:
                    ask(order, other)
                self.assertIs(caught.exception.value, other)


class FarthestTwoTest(unittest.TestCase):
    def test_their_unlike_pairs_are_all_loose_ones(self):
        for told in plain.LEAN:
            lets = Lets(*told)
            for length in range(6):
                for classed in plain.order_classes(told, length):
                    self.told(lets, classed)
        for told in (([1], None), ([2, 3], None)):
            for classed in plain.order_classes(told, 6)[::5]:
                self.told(Lets(*told), classed)

    def told(self, lets, classed):
        kept = plain.sure(classed)
        loose = [(low, high) for low, high in plain.pairs(len(classed[0]))
                 if (low, high) not in kept and (high, low) not in kept]
        found = [farthest_two(lets, order) for order in classed]
        for low, high in found:
            self.assertIn(low, classed)
            self.assertIn(high, classed)
            self.assertEqual(plain.unlike(low, high), loose)
            self.assertIsNot(low, high)
        self.assertEqual(found, [found[0]] * len(classed))
        self.assertIsInstance(found[0], tuple)

    def test_marks_are_least_in_the_first(self):
        # The line with the number 0 comes as early as it can.
        self.assertEqual(farthest_two(Lets([1]), [1, 2, 0]), ([1, 0, 2], [1, 2, 0]))
        self.assertEqual(farthest_two(Lets([1]), [1, 0, 2]), ([1, 0, 2], [1, 2, 0]))
        self.assertEqual(farthest_two(Lets([1]), []), ([], []))
        self.assertEqual(farthest_two(Lets([1]), [0]), ([0], [0]))


if __name__ == "__main__":
    unittest.main()
