"""[38], [39] and [40] What goes on behind two rows."""

import unittest

import plain
from gapswaps.errors import InvalidLets, InvalidNumber, InvalidRow
from gapswaps.goingson import bar, behind, both_behind, is_bar, least_going_on
from gapswaps.lets import Lets

BIG = 10 ** 29
NO_COUNTS = [None, True, False, -1, "0", [0], (0,), {}, Lets([1])]


def begins(told, row, other):
    """Whether other is joined to a row whose first items row is."""
    return any(list(item[:len(row)]) == row for item in plain.classed(told, other))


def going_ons(told, one, other, size):
    """All rows of a size, of items that are not too great, that both rows begin."""
    top = max(one + other, default=0) + len(one) + len(other)
    return [one + more for more in plain.rows(size - len(one), top) if begins(told, other, one + more)]


class BehindTest(unittest.TestCase):
    def test_what_goes_behind(self):
        for told in plain.GOOD:
            lets = Lets(*told)
            for item in range(8):
                for other in range(8):
                    found, back = behind(lets, item, other), behind(lets, other, item)
                    if item == other:
                        self.assertEqual(found, [])
                    elif not plain.has(told, abs(item - other)):
                        self.assertIsNone(found)
                    else:
                        self.assertEqual(found, [other + 1 if item < other else other])
                        deeds = [row for _, row in plain.row_deeds(told, [item] + found)]
                        self.assertEqual(deeds, [[other] + back])

    def test_great_numbers_and_wrong_ones(self):
        many = Lets([], 1)
        self.assertEqual((behind(many, 0, BIG), behind(many, BIG, 0)), ([BIG + 1], [0]))
        self.assertEqual((behind(many, BIG, BIG), behind(Lets([1]), 0, BIG)), ([], None))
        for number in NO_COUNTS:
            for asked in (lambda: behind(many, number, None), lambda: behind(many, 0, number)):
                with self.assertRaises(InvalidNumber) as caught:
                    asked()
                self.assertIs(caught.exception.value, number)


class BothBehindTest(unittest.TestCase):
    def test_no_shorter_rows_do(self):
        for told in plain.FEW:
            lets = Lets(*told)
            for one, other in plain.row_pairs():
                found = both_behind(lets, one, other)
                least = len(one) + len(other) + 1 if found is None else len(one + found[0])
                for size in range(max(len(one), len(other)), least):
                    self.assertEqual(going_ons(told, one, other, size), [], (told, one, other))
                if found is not None:
                    self.assertIn(tuple(other + found[1]), plain.classed(told, one + found[0]))
                    self.assertEqual(least_going_on(lets, one, other), one + found[0])
                else:
                    self.assertIsNone(least_going_on(lets, one, other))

    def test_the_least_going_on_begins_each_common_one(self):
        met = 0
        for told in plain.FEW:
            lets = Lets(*told)
            for one, other in plain.row_pairs():
                least = least_going_on(lets, one, other)
                for size in range(max(len(one), len(other)), 5 if max(one + other, default=0) < 3 else 4):
                    for row in going_ons(told, one, other, size)[::3]:
                        self.assertTrue(begins(told, least, row))
                        met += 1
        self.assertGreater(met, 1000)

    def test_joined_rows_have_nothing_behind(self):
        for told in plain.GOOD:
            lets = Lets(*told)
            for one in plain.SHORT_ROWS + plain.LONG_ROWS:
                for other in plain.SHORT_ROWS + plain.LONG_ROWS:
                    joined = tuple(other) in plain.row_class(told, one)
                    self.assertIs(both_behind(lets, one, other) == ([], []), joined)
                for other in plain.row_class(told, one):
                    self.assertEqual(both_behind(lets, one, list(other)), ([], []))

    def test_edges(self):
        many = Lets([], 1)
        for row in ([], [5], [0] * 100, [BIG, 0]):
            self.assertEqual(both_behind(many, row, row), ([], []))
            self.assertEqual(both_behind(many, [], row), (row, []))
            self.assertEqual(both_behind(many, row, []), ([], row))
            self.assertEqual((least_going_on(many, [], row), least_going_on(many, row, row)), (row, row))
        self.assertEqual(both_behind(many, [0], [BIG]), ([BIG + 1], [0]))
        self.assertEqual(both_behind(many, [0, 2, 4], [1]), ([], [0, 4]))
        self.assertEqual(both_behind(many, [0, 0], [1]), ([3], [0, 0]))
        self.assertEqual(both_behind(Lets([1]), [0, 2], [1]), ([], [0]))


class BarTest(unittest.TestCase):
    def is_plain_bar(self, lets, one, other, number, place):
        def together(some, others):
            return both_behind(lets, one[:some], other[:others]) is not None
        return together(number + 1, place) and together(number, place + 1) and not together(number + 1, place + 1)

    def test_bars(self):
        for told in plain.GOOD:
            lets = Lets(*told)
            for one in plain.SHORT_ROWS + plain.LONG_ROWS:
                for other in plain.SHORT_ROWS + plain.LONG_ROWS:
                    found = bar(lets, one, other)
                    self.assertIs(found is None, least_going_on(lets, one, other) is not None)
                    bars = [
                        (number, place) for number in range(len(one)) for place in range(len(other))
                        if self.is_plain_bar(lets, one, other, number, place)
                    ]
                    self.assertEqual(found is None, bars == [])
                    self.assertTrue(found is None or found in bars)
                    for number in range(-1, 4):
                        for place in range(-1, 4):
                            self.assertIs(is_bar(lets, one, other, (number, place)), (number, place) in bars)

    def test_is_bar_of_any_value(self):
        one = Lets([1])
        self.assertIs(is_bar(one, [2, 0], [3], (1, 0)), True)
        for value in (None, True, 1, "10", [1, 0], (1,), (1, 0, 0), (True, 0), (1, False), (1, "0"), (-1, 0), (1, -1),
                      (2, 0), (1, 1), (BIG, 0), (1, BIG), (), {1: 0}, one, ([1], 0), (1, None), (0, 0)):
            self.assertIs(is_bar(one, [2, 0], [3], value), False, value)
        self.assertIs(is_bar(one, [], [], (0, 0)), False)
        self.assertIs(bar(one, [], [BIG]), None)

    def test_wrong_arguments(self):
        one = Lets([1])
        calls = [lambda *told: both_behind(*told), lambda *told: least_going_on(*told), lambda *told: bar(*told),
                 lambda *told: is_bar(*told, None)]
        for asked in calls:
            for row in ([-1], [True], None, (0,), [0] * 201, ["0"], [[0]]):
                for rows in ((row, None), (row, [0]), ([0], row)):
                    with self.assertRaises(InvalidRow) as caught:
                        asked(one, *rows)
                    self.assertIs(caught.exception.value, row)
            for told in plain.NOT_GOOD:
                lets = Lets(*told)
                with self.assertRaises(InvalidLets) as caught:
                    asked(lets, None, None)
                self.assertIs(caught.exception.value, lets)


if __name__ == "__main__":
    unittest.main()
