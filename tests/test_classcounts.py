"""[32], [33] and [34] Classes, boxes and lone logs, counted."""

import unittest
from itertools import combinations
from math import factorial

import plain
from gapswaps.classcounts import (
    classes_rest, how_many_boxes, how_many_classes, how_many_lone, is_lone, lone_number, lone_numbered,
)
from gapswaps.errors import InvalidLets, InvalidNumber, InvalidRow
from gapswaps.lasts import how_many_lots
from gapswaps.lets import Lets

BIG = 10 ** 29
NO_COUNTS = [None, True, False, -1, "0", [0], (0,), {}, Lets([1])]


def lots_summed(lets, length):
    """What [32] says: the sum over the sizes of lots, with the package's count of lots."""
    found = [1]
    for many in range(1, length + 1):
        found.append(sum(
            (-1) ** (size + 1) * how_many_lots(lets, many, size) * found[many - size] for size in range(1, many + 1)
        ))
    return found[length]


class ClassesTest(unittest.TestCase):
    def test_classes_as_a_walk_finds_them(self):
        for told in plain.GOOD:
            for length in range(7):
                many = len(plain.row_classes(told, plain.logs(length)))
                self.assertEqual(how_many_classes(Lets(*told), length), many)

    def test_classes_of_orders_are_as_many(self):
        for told in plain.GOOD:
            self.assertEqual(how_many_classes(Lets(*told), 5), len(plain.order_classes(told, 5)))

    def test_the_sum_over_lots(self):
        for told in plain.GOOD:
            for length in (7, 12, 20):
                self.assertEqual(how_many_classes(Lets(*told), length), lots_summed(Lets(*told), length))

    def test_lean_sets(self):
        for told in plain.LEAN:
            lets = Lets(*told)
            for length in range(2, 30):
                pairs = how_many_lots(lets, length, 2)
                found = length * how_many_classes(lets, length - 1) - pairs * how_many_classes(lets, length - 2)
                self.assertEqual(how_many_classes(lets, length), found)

    def test_sets_of_few_or_all(self):
        self.assertEqual([how_many_classes(Lets([]), length) for length in (0, 1, 5, 30)], [1, 1, 120, factorial(30)])
        self.assertEqual(how_many_classes(Lets([1000]), 60), factorial(60))
        catalan = [factorial(2 * at) // factorial(at) // factorial(at + 1) for at in range(61)]
        self.assertEqual([how_many_classes(Lets([], 1), length) for length in range(61)], catalan)


class RestsTest(unittest.TestCase):
    def test_rests_of_small_lengths(self):
        for told in plain.LEAN + [([60, 61], None), ([1, 4, 7, 10], None), ([200], None)]:
            lets = Lets(*told)
            for length in (0, 1, 2, 3, 5, 8, 13, 40, 63, 64, 65, 150):
                many = how_many_classes(lets, length)
                for modulus in (1, 2, 3, 6, 7, 10, 25, 64, 97, 999, 1000):
                    self.assertEqual(classes_rest(lets, length, modulus), many % modulus)

    def test_rests_of_great_lengths(self):
        """The rests come round as soon as two of them, side by side, and the rest of the length do."""
        for told in plain.LEAN:
            lets = Lets(*told)
            numbers = plain.members(told, 20)
            for modulus in (1, 2, 3, 5, 8, 9, 10):
                rests, seen, ring = [1, 1], {}, None
                while ring is None:
                    length = len(rests)
                    pairs = sum(length - 1 - number for number in numbers if number < length - 1)
                    rests.append((length * rests[-1] - pairs * rests[-2]) % modulus)
                    state = (rests[-1], rests[-2], length % modulus)
                    if length > 30:
                        ring = (seen[state], length) if state in seen else None
                        seen[state] = length
                begin, end = ring
                for length in (BIG, BIG + 1, 10 ** 30 - 1, 10 ** 15 + 7, 12345):
                    there = begin + (length - begin) % (end - begin)
                    self.assertEqual(classes_rest(lets, length, modulus), rests[there] % modulus)

    def test_wrong_arguments(self):
        one = Lets([1])
        for told in plain.NOT_GOOD + plain.GOOD[len(plain.LEAN):]:
            lets = Lets(*told)
            with self.assertRaises(InvalidLets) as caught:
                classes_rest(lets, None, None)
            self.assertIs(caught.exception.value, lets)
        for number in NO_COUNTS:
            for asked in (lambda: classes_rest(one, number, None), lambda: classes_rest(one, 5, number)):
                with self.assertRaises(InvalidNumber) as caught:
                    asked()
                self.assertIs(caught.exception.value, number)
        for modulus in (0, 1001, BIG):
            with self.assertRaises(InvalidNumber) as caught:
                classes_rest(one, 5, modulus)
            self.assertEqual(caught.exception.value, modulus)


def apart(places):
    return all(high - low > 1 for low in places for high in places if low < high)


def boxes(told, length, size):
    """All boxes of a size, as sets of logs, straight from the words of [33]."""
    found = set()
    for log in plain.logs(length):
        there = dict(plain.row_deeds(told, log))
        for places in combinations(range(length - 1), size):
            if apart(places) and all(at in there for at in places):
                box = {tuple(log)}
                for at in places:
                    box |= {tuple(dict(plain.row_deeds(told, list(other)))[at]) for other in box}
                found.add(frozenset(box))
    return found


class BoxesTest(unittest.TestCase):
    def test_all_boxes(self):
        for told in plain.GOOD[::2] + plain.NOT_GOOD:
            for length in range(6):
                for size in range(4):
                    self.assertEqual(how_many_boxes(Lets(*told), length, size), len(boxes(told, length, size)))

    def test_sizes(self):
        for told in plain.GOOD + plain.NOT_GOOD:
            lets = Lets(*told)
            for length in range(7):
                self.assertEqual(how_many_boxes(lets, length, 0), factorial(length))
                pairs = sum(len(plain.row_deeds(told, log)) for log in plain.logs(length))
                self.assertEqual(2 * how_many_boxes(lets, length, 1), pairs)
                self.assertEqual(how_many_boxes(lets, length, length), 1 if length == 0 else 0)
                self.assertEqual(how_many_boxes(lets, length, BIG), 0)

    def test_classes_of_lean_sets(self):
        for told in plain.LEAN:
            lets = Lets(*told)
            for length in (0, 1, 2, 5, 11, 30):
                counts = [how_many_boxes(lets, length, size) for size in range(length // 2 + 1)]
                self.assertEqual(how_many_classes(lets, length), sum(counts[::2]) - sum(counts[1::2]))
        self.assertNotEqual(how_many_classes(Lets([], 1), 5), sum(
            (-1) ** size * how_many_boxes(Lets([], 1), 5, size) for size in range(3)))


class LoneTest(unittest.TestCase):
    def test_is_lone(self):
        for told in plain.GOOD + plain.NOT_GOOD:
            lets = Lets(*told)
            for row in plain.rows(0, 0) + plain.rows(1, 3) + plain.rows(2, 6) + plain.rows(3, 4):
                self.assertIs(is_lone(lets, row), plain.row_deeds(told, row) == [])
        self.assertIs(is_lone(Lets([], 1), [BIG, 0]), False)
        self.assertIs(is_lone(Lets([], 1), [BIG] * 200), True)

    def test_lone_logs_are_numbered_in_order(self):
        for told in plain.GOOD + plain.NOT_GOOD:
            lets = Lets(*told)
            for length in range(7):
                lone = [log for log in plain.logs(length) if not plain.row_deeds(told, log)]
                self.assertEqual(how_many_lone(lets, length), len(lone))
                for number in list(range(0, len(lone), 1 + len(lone) // 25)) + [len(lone) - 1]:
                    self.assertEqual(lone_numbered(lets, length, number), lone[number])
                    self.assertEqual(lone_number(lets, lone[number]), number)
                for number in (len(lone), len(lone) + 1, BIG):
                    with self.assertRaises(InvalidNumber) as caught:
                        lone_numbered(lets, length, number)
                    self.assertEqual(caught.exception.value, number)

    def test_wrong_logs(self):
        odd = Lets([1, 2])
        for log in ([1], [0, 2], [0, 0, 2], [0, 1, 0], [0, 0, 0, 3], None, (0,), [0] * 201, [True], "0"):
            with self.assertRaises(InvalidRow) as caught:
                lone_number(odd, log)
            self.assertIs(caught.exception.value, log)

    def test_edges(self):
        for lets in (Lets([]), Lets([1]), Lets([], 1)):
            self.assertEqual([how_many_lone(lets, length) for length in range(3)], [1, 1, 2])
            self.assertEqual((lone_numbered(lets, 0, 0), lone_numbered(lets, 1, 0)), ([], [0]))
            self.assertEqual((lone_number(lets, []), lone_number(lets, [0])), (0, 0))
        self.assertEqual(how_many_lone(Lets([]), 30), factorial(30))

    def test_wrong_numbers(self):
        one = Lets([1])
        for number in NO_COUNTS:
            for asked in (lambda: how_many_classes(one, number), lambda: how_many_boxes(one, number, None),
                          lambda: how_many_boxes(one, 5, number), lambda: how_many_lone(one, number),
                          lambda: lone_numbered(one, number, None), lambda: lone_numbered(one, 5, number),
                          lambda: how_many_boxes(one, BIG, number), lambda: lone_numbered(one, BIG, number)):
                with self.assertRaises(InvalidNumber) as caught:
                    asked()
                self.assertIs(caught.exception.value, number)

    def test_sets_that_are_not_good(self):
        for told in plain.NOT_GOOD:
            lets = Lets(*told)
            with self.assertRaises(InvalidLets) as caught:
                how_many_classes(lets, None)
            self.assertIs(caught.exception.value, lets)


if __name__ == "__main__":
    unittest.main()
