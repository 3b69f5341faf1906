"""[4], [6], [7] Orders, rows, logs and their numbers."""

import unittest
from math import factorial

import plain
from gapswaps.errors import InvalidNumber, InvalidOrder, InvalidRow
from gapswaps.lets import Lets
from gapswaps.orders import (
    cut, is_log, is_order, is_row, log_of, order_number, order_numbered, order_of, places_of,
)

BIG = 10 ** 29
NO_LISTS = [None, True, 3, "01", (0, 1), {}, {0: 0}, Lets([1]), InvalidRow([0])]
NO_ROWS = NO_LISTS + [[-1], [True], [0, False], [None], ["0"], [[0]], [(0,)], [{}], [Lets([1])], [0] * 201]
NO_ORDERS = NO_ROWS + [[1], [0, 0], [0, 2], [1, 2], [0, 1, 3], [BIG], list(range(201))]
NO_LOGS = NO_ROWS + [[1], [0, 2], [0, 0, 3], [BIG], list(range(201))]


class KindsTest(unittest.TestCase):
    def test_is_order(self):
        for value in NO_ORDERS:
            self.assertIs(is_order(value), False, value)
        for value in ([], [0], [1, 0], [2, 0, 1], list(range(200)), list(range(199, -1, -1))):
            self.assertIs(is_order(value), True, value)

    def test_is_row(self):
        for value in NO_ROWS:
            self.assertIs(is_row(value), False, value)
        for value in ([], [0], [5, 5], [BIG], [BIG] * 200, [0] * 200):
            self.assertIs(is_row(value), True, value)

    def test_is_log(self):
        for value in NO_LOGS:
            self.assertIs(is_log(value), False, value)
        for value in ([], [0], [0, 0], [0, 1], [0, 1, 2], [0] * 200, list(range(200))):
            self.assertIs(is_log(value), True, value)

    def test_all_small_ones(self):
        for length in range(5):
            known = plain.orders(length)
            kept = plain.logs(length)
            for row in plain.rows(length, length):
                self.assertIs(is_order(row), row in known)
                self.assertIs(is_log(row), row in kept)


class LogsTest(unittest.TestCase):
    def test_the_log_counts_lesser_items_ahead(self):
        for length in range(6):
            for order in plain.orders(length):
                self.assertEqual(log_of(order), plain.log_of(order))

    def test_there_and_back(self):
        for length in range(6):
            self.assertEqual(sorted(log_of(order) for order in plain.orders(length)), plain.logs(length))
            for log in plain.logs(length):
                self.assertEqual(log_of(order_of(log)), log)
            for order in plain.orders(length):
                self.assertEqual(order_of(log_of(order)), order)

    def test_long_ones(self):
        up, down = list(range(200)), list(range(199, -1, -1))
        self.assertEqual(log_of(up), up)
        self.assertEqual(log_of(down), [0] * 200)
        self.assertEqual(order_of(up), up)
        self.assertEqual(order_of([0] * 200), down)
        mixed = [item * 77 % 200 if item % 2 else item * 77 % 200 for item in range(200)]
        self.assertEqual(order_of(log_of(mixed)), mixed)

    def test_places(self):
        for length in range(6):
            for order in plain.orders(length):
                self.assertEqual(places_of(order), [order.index(number) for number in range(length)])

    def test_cut(self):
        for length in range(6):
            for order in plain.orders(length):
                for short in range(length + 1):
                    found = cut(order, short)
                    self.assertTrue(is_order(found))
                    self.assertEqual(len(found), short)
                    self.assertEqual(log_of(found), log_of(order)[:short])

    def test_refused(self):
        for function in (log_of, places_of, order_number):
            for value in NO_ORDERS:
                with self.assertRaises(InvalidOrder) as caught:
                    function(value)
                self.assertIs(caught.exception.value, value)
        for value in NO_LOGS:
            with self.assertRaises(InvalidRow) as caught:
                order_of(value)
            self.assertIs(caught.exception.value, value)

    def test_cut_refused(self):
        for length in (None, True, False, -1, 4, "1", [1], BIG):
            for order in NO_ORDERS:
                with self.assertRaises(InvalidOrder) as caught:
                    cut(order, length)
                self.assertIs(caught.exception.value, order)
            with self.assertRaises(InvalidNumber) as caught:
                cut([2, 0, 1], length)
            self.assertIs(caught.exception.value, length)


class NumbersTest(unittest.TestCase):
    def test_orders_are_numbered_in_order(self):
        for length in range(7):
            for number, order in enumerate(plain.orders(length)):
                self.assertEqual(order_number(order), number)
                self.assertEqual(order_numbered(length, number), order)

    def test_long_ones(self):
        last = factorial(200) - 1
        self.assertEqual(order_numbered(200, last), list(range(199, -1, -1)))
        self.assertEqual(order_number(list(range(199, -1, -1))), last)
        for number in (0, 1, BIG, last // 7, last // 2):
            self.assertEqual(order_number(order_numbered(200, number)), number)

    def test_refused(self):
        for number in (None, True, -1, 6, 7, "0", BIG):
            for length in (None, True, False, -1, 201, "3", [3], BIG):
                with self.assertRaises(InvalidNumber) as caught:
                    order_numbered(length, number)
                self.assertIs(caught.exception.value, length)
            with self.assertRaises(InvalidNumber) as caught:
                order_numbered(3, number)
            self.assertIs(caught.exception.value, number)
        for length, number in ((0, 1), (1, 1), (2, 2), (200, factorial(200))):
            self.assertRaises(InvalidNumber, order_numbered, length, number)
            self.assertEqual(len(order_numbered(length, number - 1)), length)


if __name__ == "__main__":
    unittest.main()
