"""[23] to [27] Sure pairs."""

import unittest

import plain
from gapswaps.errors import InvalidNumber
from gapswaps.lets import Lets
from gapswaps.pairs import (
    can_touch, changes, class_counts, farthest, how_many_far, how_many_joined, joined_number, joined_numbered, keeps,
    loose_pairs, next_joined, next_pairs, places_for, sure_pairs,
)

BIG = 10 ** 29
NO_COUNTS = [None, True, False, -1, "0", [0], (0,), {}, Lets([1])]


ALL_CLASSES = plain.some_classes()


class SurePairsTest(unittest.TestCase):
    def test_sure_loose_and_next_pairs(self):
        for told, classed in ALL_CLASSES:
            lets = Lets(*told)
            kept = plain.sure(classed)
            loose = [(low, high) for low, high in plain.pairs(len(classed[0]))
                     if (low, high) not in kept and (high, low) not in kept]
            near = [(left, right) for left, right in kept
                    if not any((left, item) in kept and (item, right) in kept for item in classed[0])]
            for order in classed[::1 + len(classed) // 3]:
                self.assertEqual(sure_pairs(lets, order), kept)
                self.assertEqual(loose_pairs(lets, order), loose)
                self.assertEqual(next_pairs(lets, order), near)

    def test_keeps(self):
        for told, classed in ALL_CLASSES:
            lets = Lets(*told)
            order = classed[-1]
            for other in plain.orders(len(order))[::1 if len(order) < 5 else 7] + classed:
                self.assertIs(keeps(lets, order, other), other in classed)

    def test_keeps_any_value(self):
        one, order = Lets([1]), [3, 4, 0, 1, 2]
        for value in (None, True, 3, "34012", (3, 4, 0, 1, 2), [], [0], [3, 4, 0, 1], [3, 4, 0, True, 2], {}, one,
                      [3, 4, 0, 1, 1], order + [5], [3, 4, 0, 1, [2]], [None] * 5, [0, 1, 2, 3, 4], [BIG] * 5):
            self.assertIs(keeps(one, order, value), False, value)
        self.assertIs(keeps(one, order, order), True)
        self.assertIs(keeps(one, [], []), True)
        self.assertIs(keeps(one, [], [0]), False)


class NumberedTest(unittest.TestCase):
    def test_orders_of_a_class_are_numbered_in_order(self):
        for told, classed in ALL_CLASSES:
            lets = Lets(*told)
            step = 1 + len(classed) // 6
            for number in list(range(0, len(classed), step)) + [len(classed) - 1]:
                order = classed[number]
                self.assertEqual(how_many_joined(lets, order), len(classed))
                self.assertEqual(joined_number(lets, order), number)
                self.assertEqual(joined_numbered(lets, classed[0], number), order)
                behind = classed[number + 1] if number + 1 < len(classed) else None
                self.assertEqual(next_joined(lets, order), behind)
            for number in (len(classed), len(classed) + 1, BIG):
                with self.assertRaises(InvalidNumber) as caught:
                    joined_numbered(lets, classed[0], number)
                self.assertEqual(caught.exception.value, number)

    def test_next_joined_lists_a_class(self):
        order, found = [1, 3, 0, 2, 4], []
        lets = Lets([], 1)
        order = joined_numbered(lets, order, 0)
        while order is not None:
            found.append(order)
            order = next_joined(lets, order)
        self.assertEqual(found, sorted(list(other) for other in plain.order_class(([], 1), [1, 3, 0, 2, 4])))

    def test_wrong_numbers(self):
        for number in NO_COUNTS:
            for function in (joined_numbered, how_many_far):
                with self.assertRaises(InvalidNumber) as caught:
                    function(Lets([1]), [3, 4, 0, 1, 2], number)
                self.assertIs(caught.exception.value, number)

    def test_edges(self):
        for order in ([], [0], [0, 1], list(range(200)), list(range(199, -1, -1))):
            for lets in (Lets([]), Lets([1]), Lets([], 1)):
                self.assertEqual((how_many_joined(lets, order), joined_number(lets, order)), (1, 0))
                self.assertEqual((joined_numbered(lets, order, 0), next_joined(lets, order)), (order, None))
                self.assertEqual((how_many_far(lets, order, 0), how_many_far(lets, order, 1)), (1, 0))
                self.assertEqual((how_many_far(lets, order, BIG), farthest(lets, order)), (0, (0, order)))
                self.assertEqual(loose_pairs(lets, order), [])
                self.assertEqual(next_pairs(lets, order), sorted(zip(order, order[1:])))


class NeighboursTest(unittest.TestCase):
    def neighbours(self, classed):
        """A dict from each pair to the counts with which its numbers are neighbours in some order."""
        found = {}
        for order in classed:
            for at in range(len(order) - 1):
                pair = (min(order[at:at + 2]), max(order[at:at + 2]))
                found.setdefault(pair, set()).add(plain.count_left(order, at))
        return found

    def test_places(self):
        for told, classed in ALL_CLASSES:
            for item in range(len(classed[0])):
                stands = sorted(set(order.index(item) for order in classed))
                self.assertEqual(stands, list(range(stands[0], stands[-1] + 1)))
                self.assertEqual(places_for(Lets(*told), classed[0], item), (stands[0], stands[-1]))
                self.assertEqual(len([left for left, right in plain.sure(classed) if right == item]), stands[0])

    def test_can_touch_and_changes(self):
        for told, classed in ALL_CLASSES:
            met = self.neighbours(classed)
            lets = Lets(*told)
            for low, high in plain.pairs(len(classed[0])):
                counts = met.get((low, high))
                for one, other in ((low, high), (high, low)):
                    self.assertIs(can_touch(lets, classed[0], one, other), counts is not None)
                    found = changes(lets, classed[0], one, other)
                    if counts is None:
                        self.assertIsNone(found)
                    else:
                        self.assertEqual([plain.has(told, count) for count in counts], [found] * len(counts))
                        self.assertIsInstance(found, bool)

    def test_class_counts(self):
        for told, classed in ALL_CLASSES:
            kept = plain.sure(classed)
            used, shut = set(), set()
            for (low, high), counts in self.neighbours(classed).items():
                if (low, high) in kept or (high, low) in kept:
                    shut.update(counts)
                else:
                    used.update(counts)
                # They are all counts between two bounds.
                self.assertEqual(sorted(counts), list(range(min(counts), max(counts) + 1)))
            self.assertEqual(class_counts(Lets(*told), classed[0]), (sorted(used), sorted(shut)))

    def test_the_same_class_by_another_set(self):
        for told, classed in ALL_CLASSES[::7]:
            if len(classed[0]) < 6:
                used, shut = class_counts(Lets(*told), classed[0])
                for other in plain.GOOD + plain.NOT_GOOD:
                    fits = all(plain.has(other, count) for count in used)
                    fits = fits and not any(plain.has(other, count) for count in shut)
                    same = sorted(list(order) for order in plain.order_class(other, classed[0])) == classed
                    if other in plain.GOOD:
                        self.assertIs(fits, same)
                    elif fits:
                        self.assertTrue(same)

    def test_wrong_numbers(self):
        one, order = Lets([1]), [3, 4, 0, 1, 2]
        for item in NO_COUNTS + [5, 6, BIG]:
            with self.assertRaises(InvalidNumber) as caught:
                places_for(one, order, item)
            self.assertIs(caught.exception.value, item)
            for function in (can_touch, changes):
                for other in (0, None, 7, item):
                    with self.assertRaises(InvalidNumber) as caught:
                        function(one, order, item, other)
                    self.assertIs(caught.exception.value, item)
                with self.assertRaises(InvalidNumber) as caught:
                    function(one, order, 0, item)
                self.assertIs(caught.exception.value, item)
        for item in range(5):
            for function in (can_touch, changes):
                with self.assertRaises(InvalidNumber) as caught:
                    function(one, order, item, item)
                self.assertEqual(caught.exception.value, item)
        self.assertRaises(InvalidNumber, places_for, one, [], 0)
        self.assertRaises(InvalidNumber, can_touch, one, [], 0, 1)
        self.assertRaises(InvalidNumber, changes, one, [0], 0, 0)


class DistancesTest(unittest.TestCase):
    def test_how_many_far_and_farthest(self):
        for told, classed in ALL_CLASSES:
            lets = Lets(*told)
            for order in classed[::1 + len(classed) // 3]:
                fars = [len(plain.unlike(order, other)) for other in classed]
                for far in range(max(fars) + 3):
                    self.assertEqual(how_many_far(lets, order, far), fars.count(far))
                self.assertEqual(how_many_far(lets, order, BIG), 0)
                most = max(fars)
                self.assertEqual(farthest(lets, order), (most, classed[fars.index(most)]))

    def test_the_first_of_several_farthest(self):
        """Where several are as far, the first in order is told: there are such classes here."""
        several = 0
        for told, classed in ALL_CLASSES:
            for order in classed[:1]:
                fars = [len(plain.unlike(order, other)) for other in classed]
                several += fars.count(max(fars)) > 1
        middle = [3, 0, 4, 1, 2]
        self.assertEqual(farthest(Lets([1]), middle), (2, [3, 0, 1, 2, 4]))
        self.assertGreater(several, 0)


if __name__ == "__main__":
    unittest.main()
