"""[14] to [17] Travellers."""

import unittest

import plain
from gapswaps.deeds import led
from gapswaps.errors import InvalidNumber, Unlike
from gapswaps.lets import Lets
from gapswaps.travel import (
    class_first, divided, is_stop, is_way, joined, joined_orders, order_way, passed, stop, way, without,
)

BIG = 10 ** 29
NO_COUNTS = [None, True, False, -1, "0", [0], (0,), {}, Lets([1])]
ROWS = plain.rows(0, 0) + plain.rows(1, 2) + plain.rows(2, 4) + plain.rows(3, 3)
LONG_ROWS = [[0, 0, 2, 4], [4, 2, 1, 0], [0, 3, 0, 3], [1, 3, 5, 0], [2, 2, 0, 0], [0, 1, 3, 6], [6, 3, 1, 0], [0, 0, 0, 2, 4]]


def travel(told, row, item):
    """What [14] says, word by word: the items passed, whether the number is found, and what is behind."""
    behind, rest = [], list(row)
    while rest:
        first = rest[0]
        if first == item:
            return behind, True, rest[1:]
        if plain.has(told, item - first):
            behind.append(first)
            item = item + 1
        elif plain.has(told, first - item):
            behind.append(first + 1)
        else:
            return behind, False, rest
        rest = rest[1:]
    return behind, False, []


class TravellersTest(unittest.TestCase):
    def test_without_and_passed(self):
        for told in plain.GOOD:
            lets = Lets(*told)
            for row in ROWS + LONG_ROWS:
                classed = plain.row_class(told, row)
                for item in range(9):
                    behind, found, rest = travel(told, row, item)
                    self.assertEqual(passed(lets, row, item), len(behind))
                    left = without(lets, row, item)
                    self.assertEqual(left, behind + rest if found else None)
                    # A row is joined to one that begins with the number exactly if there is what is left.
                    self.assertIs(found, any(other[0] == item for other in classed if other))
                    if found:
                        self.assertIn(tuple([item] + left), classed)

    def test_great_numbers(self):
        many = Lets([], 1)
        self.assertEqual(without(many, [0, BIG, 3], BIG - 1), [0, 3])
        self.assertEqual(without(many, [BIG, 0], 0), [BIG + 1])
        self.assertEqual(passed(many, [BIG] * 200, 0), 200)
        self.assertEqual(passed(Lets([1]), [BIG] * 200, 0), 0)
        self.assertEqual(without(many, [0] * 199 + [BIG], BIG - 199), [0] * 199)
        self.assertIsNone(without(many, [], BIG))

    def test_wrong_numbers(self):
        for function in (without, passed):
            for item in NO_COUNTS:
                with self.assertRaises(InvalidNumber) as caught:
                    function(Lets([1]), [2, 4], item)
                self.assertIs(caught.exception.value, item)


class JoinedTest(unittest.TestCase):
    def test_joined_rows(self):
        for told in plain.GOOD:
            lets = Lets(*told)
            for row in plain.rows(2, 4) + plain.rows(3, 2) + LONG_ROWS:
                classed = plain.row_class(told, row)
                for other in [list(item) for item in classed]:
                    self.assertIs(joined(lets, row, other), True)
                    self.assertEqual(divided(lets, row, other), [])
                near = plain.rows(len(row), 4) if len(row) < 4 else LONG_ROWS
                for other in near:
                    self.assertIs(joined(lets, row, other), tuple(other) in classed)

    def test_divided(self):
        for told in plain.GOOD:
            lets = Lets(*told)
            for row in plain.rows(3, 3)[::3] + LONG_ROWS:
                classed = plain.row_class(told, row)
                for by in plain.rows(0, 0) + plain.rows(1, 5) + plain.rows(2, 4):
                    left = divided(lets, row, by)
                    behind = [list(item[len(by):]) for item in classed if list(item[:len(by)]) == by]
                    # Rows that begin alike are joined exactly if what stands behind is.
                    if left is None:
                        self.assertEqual(behind, [])
                    else:
                        self.assertEqual(sorted(behind), sorted(list(item) for item in plain.row_class(told, left)))

    def test_unlike_lengths(self):
        one = Lets([1])
        for row, other in (([], [0]), ([0], []), ([1, 3], [1]), ([1], [1, 3]), ([0] * 200, [0] * 199)):
            self.assertIs(joined(one, row, other), False)
        self.assertIsNone(divided(one, [], [0]))
        self.assertIsNone(divided(one, [1], [1, 3]))
        self.assertEqual(divided(one, [1, 3], []), [1, 3])
        self.assertEqual(divided(one, [1, 3], [1]), [3])
        self.assertEqual(divided(one, [], []), [])
        self.assertIs(joined(one, [], []), True)

    def test_class_first(self):
        for told in plain.GOOD:
            lets = Lets(*told)
            for row in ROWS + LONG_ROWS:
                firsts = sorted(set(other[0] for other in plain.row_class(told, row) if other))
                found = class_first(lets, row)
                self.assertEqual(found, firsts)
                for low, high in plain.pairs(len(found)):
                    self.assertTrue(plain.has(told, found[high] - found[low]))

    def test_class_first_of_great_rows(self):
        self.assertEqual(class_first(Lets([], 1), [0, BIG]), [0, BIG - 1])
        self.assertEqual(class_first(Lets([], 1), [2 * at for at in range(200)]), list(range(200)))
        self.assertEqual(class_first(Lets([1]), [BIG]), [BIG])


class WaysOfRowsTest(unittest.TestCase):
    def test_ways_are_as_short_as_can_be(self):
        for told in plain.GOOD:
            lets = Lets(*told)
            for row in plain.rows(0, 0) + plain.rows(1, 2) + plain.rows(2, 4)[::2] + plain.rows(3, 3)[::3] + LONG_ROWS:
                classed = plain.row_class(told, row)
                for other, far in classed.items():
                    found = way(lets, row, list(other))
                    self.assertEqual(len(found), far)
                    self.assertEqual(led(lets, row, found), list(other))
                    self.assertIs(is_way(lets, row, list(other), found), True)
                    self.assertIsNone(stop(lets, row, list(other)))
                    # A way there and back is one more.
                    if far:
                        self.assertIs(is_way(lets, row, list(other), found + [found[-1], found[-1]]), True)
                        self.assertIs(is_way(lets, row, list(other), found[:-1]), False)
                        self.assertIs(is_way(lets, row, list(other), []), False)

    def test_stops_stop(self):
        for told in plain.GOOD:
            lets = Lets(*told)
            for row in plain.rows(1, 3) + plain.rows(2, 3) + plain.rows(3, 2) + LONG_ROWS[:4]:
                classed = plain.row_class(told, row)
                for other in (plain.rows(len(row), 3)[::2] if len(row) < 4 else LONG_ROWS[:6]):
                    if tuple(other) not in classed:
                        self.stopped(told, row, other, stop(lets, row, other))
                        self.assertIsNone(way(lets, row, other))
                        self.assertIs(is_stop(lets, row, other, stop(lets, row, other)), True)
                        self.assertIs(is_way(lets, row, other, []), False)

    def stopped(self, told, row, other, found):
        self.assertIsInstance(found, tuple)
        places, number, many = found
        there = led(Lets(*told), row, places)
        self.assertEqual(there[:number], other[:number])
        behind, is_found, _ = travel(told, there[number:], other[number])
        self.assertFalse(is_found)
        self.assertEqual(many, len(behind))

    def test_all_told_stops(self):
        for told in (([1], None), ([], 1), ([], 2)):
            lets = Lets(*told)
            for row, other in (([2, 0, 2], [1, 3, 1]), ([0, 0, 2], [0, 1, 0]), ([1, 3], [1, 3]), ([2, 1], [1, 3])):
                for places in ([], [0], [1], [0, 0], [1, 0], [0, 1], [1, 1, 1]):
                    for number in range(-1, 5):
                        for many in range(-1, 4):
                            self.assertIs(is_stop(lets, row, other, (places, number, many)),
                                          self.is_plain_stop(told, row, other, places, number, many))

    def is_plain_stop(self, told, row, other, places, number, many):
        there = row
        for at in places:
            behind = dict(plain.row_deeds(told, there))
            if at not in behind:
                return False
            there = behind[at]
        if not 0 <= number < len(other) or there[:number] != other[:number]:
            return False
        behind, is_found, _ = travel(told, there[number:], other[number])
        return not is_found and len(behind) == many

    def test_is_way_of_any_value(self):
        one = Lets([1])
        self.assertIs(is_way(one, [], [], []), True)
        self.assertIs(is_way(one, [1, 3, 0], [2, 0, 2], [0, 1]), True)
        self.assertIs(is_way(one, [1, 3, 0], [2, 0, 2], [0, 1, 1, 0, 0, 1]), True)
        wrong = [None, True, 0, "01", (0, 1), {}, {0: 1}, [0], [1], [1, 0], [0, True], [False, 1], [0, 1, -1], ["0", 1],
                 [0, 1, 2], [0, [1]], [0, 1, None], one, [0, 1, BIG], [[0, 1]], [0, -2]]
        for value in wrong:
            self.assertIs(is_way(one, [1, 3, 0], [2, 0, 2], value), False, value)
        self.assertIs(is_way(one, [0, 0], [0, 1], []), False)

    def test_is_stop_of_any_value(self):
        one = Lets([1])
        self.assertIs(is_stop(one, [0, 0], [0, 1], ([], 1, 1)), True)
        wrong = [None, True, 3, "abc", [[], 1, 1], ([], 1), ([], 1, 1, 1), ((), 1, 1), (None, 1, 1), ([], True, 1),
                 ([], 1, True), ([], "1", 1), ([], 1, None), ([0], 1, 1), (["0"], 1, 1), ([], 2, 0), ([], -1, 0),
                 ([], 1, -1), ([], 0, 0), ([], 0, 1), ([], 1, 0), ([], 1, 2), {}, (), one, ([], BIG, 1), ([], 1, BIG)]
        for value in wrong:
            self.assertIs(is_stop(one, [0, 0], [0, 1], value), False, value)
        self.assertIs(is_stop(one, [], [], ([], 0, 0)), False)

    def test_unlike(self):
        one = Lets([1])
        for row, other in (([], [0]), ([0, 1], [0]), ([0], [0, 1]), ([0] * 200, [0] * 199)):
            for asked in (lambda: way(one, row, other), lambda: stop(one, row, other),
                          lambda: is_way(one, row, other, None), lambda: is_stop(one, row, other, None)):
                with self.assertRaises(Unlike) as caught:
                    asked()
                self.assertIs(caught.exception.value, other)


class JoinedOrdersTest(unittest.TestCase):
    def test_orders(self):
        for told in plain.GOOD:
            lets = Lets(*told)
            for one in plain.orders(4) + plain.orders(5)[::17]:
                classed = plain.order_class(told, one)
                for other in plain.orders(len(one)):
                    self.assertIs(joined_orders(lets, one, other), tuple(other) in classed)
                    found = order_way(lets, one, other)
                    if tuple(other) in classed:
                        self.assertEqual(len(found), classed[tuple(other)])
                        there = one
                        for at in found:
                            there = dict(plain.order_deeds(told, there))[at]
                        self.assertEqual(there, other)
                    else:
                        self.assertIsNone(found)

    def test_edges(self):
        many = Lets([], 1)
        self.assertEqual((joined_orders(many, [], []), order_way(many, [], [])), (True, []))
        self.assertEqual((joined_orders(many, [0], [0]), order_way(many, [0], [0])), (True, []))
        self.assertIs(joined_orders(Lets([]), [1, 0, 2], [1, 2, 0]), False)
        for one, other in (([], [0]), ([0, 1], [0]), (list(range(200)), list(range(199)))):
            for function in (joined_orders, order_way):
                with self.assertRaises(Unlike) as caught:
                    function(many, one, other)
                self.assertIs(caught.exception.value, other)


if __name__ == "__main__":
    unittest.main()
