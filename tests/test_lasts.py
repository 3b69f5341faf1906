"""[30] and [31] Last items and lots."""

import unittest
from itertools import combinations

import plain
from gapswaps.errors import InvalidLets, InvalidNumber
from gapswaps.lasts import class_last, how_many_lots, is_lot, most_last, without_last
from gapswaps.lets import Lets

BIG = 10 ** 29
NO_COUNTS = [None, True, False, -1, "0", [0], (0,), {}, Lets([1])]


def travel_back(told, row, item):
    """What [30] says, word by word: the row that is left, None if the number stops."""
    ahead, passed = list(row), []
    while ahead:
        one = ahead.pop()
        if one == item:
            return ahead + passed
        if plain.has(told, one - item - 1):
            passed.insert(0, one - 1)
        elif plain.has(told, item - one - 1):
            passed.insert(0, one)
            item = item - 1
        else:
            return None
    return None


class LastItemsTest(unittest.TestCase):
    def test_class_last(self):
        for told in plain.GOOD:
            lets = Lets(*told)
            for row in plain.some_rows():
                lasts = sorted(set(other[-1] for other in plain.row_class(told, row) if other))
                self.assertEqual(class_last(lets, row), lasts)

    def test_without_last(self):
        for told in plain.GOOD:
            lets = Lets(*told)
            for row in plain.some_rows():
                classed = plain.row_class(told, row)
                for item in range(8):
                    left = without_last(lets, row, item)
                    self.assertEqual(left, travel_back(told, row, item))
                    self.assertIs(left is not None, any(other[-1] == item for other in classed if other))
                    if left is not None:
                        self.assertIn(tuple(left + [item]), classed)

    def test_what_is_left_of_a_log_is_a_log(self):
        for told in plain.GOOD:
            lets = Lets(*told)
            for log in plain.logs(4) + plain.logs(5)[::7]:
                for item in class_last(lets, log):
                    left = without_last(lets, log, item)
                    self.assertTrue(all(other <= at for at, other in enumerate(left)))

    def test_great_numbers(self):
        many = Lets([], 1)
        self.assertEqual(class_last(many, [BIG, 0]), [0, BIG + 1])
        self.assertEqual(class_last(many, [0, BIG]), [0, BIG])
        self.assertEqual(class_last(Lets([1]), [0, BIG]), [BIG])
        self.assertEqual(class_last(many, [2 * at for at in range(200)]), list(range(0, 400, 2)))
        self.assertEqual(without_last(many, [0] * 199 + [BIG], BIG), [0] * 199)
        self.assertEqual(without_last(many, [BIG] + [0] * 199, BIG + 199), [0] * 199)
        self.assertIsNone(without_last(many, [0, 5], BIG))
        self.assertIsNone(without_last(Lets([1]), [], 0))
        self.assertIsNone(without_last(many, [], BIG))

    def test_wrong_items(self):
        for item in NO_COUNTS:
            with self.assertRaises(InvalidNumber) as caught:
                without_last(Lets([1]), [2, 4], item)
            self.assertIs(caught.exception.value, item)


class LotsTest(unittest.TestCase):
    def test_is_lot(self):
        for told in plain.GOOD + plain.NOT_GOOD:
            lets = Lets(*told)
            lots = plain.lots(told, 8)
            for size in range(5):
                for value in combinations(range(8), size):
                    self.assertIs(is_lot(lets, 8, list(value)), list(value) in lots)
            for lot in lots:
                self.assertIs(is_lot(lets, 8, lot), True)
                self.assertIs(is_lot(lets, 7, lot), 7 not in lot)
                if len(lot) > 1:
                    self.assertIs(is_lot(lets, 8, lot[::-1]), False)

    def test_all_two_differ_so_not_neighbours_alone(self):
        self.assertIs(is_lot(Lets([1]), 9, [0, 2, 4]), False)
        self.assertIs(is_lot(Lets([1, 3]), 9, [0, 2, 4]), True)
        self.assertIs(is_lot(Lets([2], 9), 50, [0, 3, 13, 23, 49]), True)
        self.assertIs(is_lot(Lets([2], 9), 50, [0, 3, 12, 22]), False)

    def test_is_lot_of_any_value(self):
        many = Lets([], 1)
        self.assertIs(is_lot(many, 0, []), True)
        self.assertIs(is_lot(many, BIG, []), True)
        self.assertIs(is_lot(many, BIG, [0, 7, BIG - 1]), True)
        self.assertIs(is_lot(many, 1, [0]), True)
        self.assertIs(is_lot(many, BIG, list(range(0, 4000, 2))), True)
        self.assertIs(is_lot(Lets([1]), BIG, [BIG - 3, BIG - 1]), True)
        for value in (None, True, 0, "02", (0, 2), {0: 2}, [0, True], [False, 2], [0, "2"], [-2, 0], [0, 0], [2, 0],
                      [0, 1], [0, 9], [BIG], [[0, 2]], [None], many, [0, 2, 3], [0, (2,)]):
            self.assertIs(is_lot(many, 9, value), False, value)

    def test_how_many_lots(self):
        for told in plain.GOOD:
            lets = Lets(*told)
            for length in range(10):
                sizes = [len(lot) for lot in plain.lots(told, length)]
                for size in range(length + 2):
                    self.assertEqual(how_many_lots(lets, length, size), sizes.count(size))
                self.assertEqual(how_many_lots(lets, length, BIG), 0)
                self.assertEqual(most_last(lets, length), max(sizes))

    def test_lots_are_last_items_of_classes(self):
        for told in plain.GOOD:
            lets = Lets(*told)
            classes = [plain.row_classes(told, plain.logs(length)) for length in range(6)]
            for length in range(1, 6):
                lasts = [class_last(lets, classed[0]) for classed in classes[length]]
                for found in lasts:
                    self.assertIs(is_lot(lets, length, found), True)
                for lot in plain.lots(told, length):
                    if lot:
                        many = len([found for found in lasts if set(lot) <= set(found)])
                        self.assertGreater(many, 0)
                        self.assertEqual(many, len(classes[length - len(lot)]))

    def test_edges(self):
        for lets in (Lets([]), Lets([1]), Lets([], 1), Lets([1000])):
            self.assertEqual([how_many_lots(lets, 0, size) for size in range(3)], [1, 0, 0])
            self.assertEqual([how_many_lots(lets, 1, size) for size in range(3)], [1, 1, 0])
            self.assertEqual([most_last(lets, length) for length in range(3)], [0, 1, 1])
            self.assertEqual(how_many_lots(lets, 9, 0), 1)
            self.assertEqual(how_many_lots(lets, 9, 1), 9)
        self.assertEqual([most_last(Lets([], 1), length) for length in range(7)], [0, 1, 1, 2, 2, 3, 3])
        self.assertEqual(most_last(Lets([], 9), 60), 6)

    def test_wrong_lengths_and_sizes(self):
        one = Lets([1])
        for number in NO_COUNTS:
            for asked in (lambda: is_lot(one, number, []), lambda: how_many_lots(one, number, number),
                          lambda: how_many_lots(one, 5, number), lambda: most_last(one, number),
                          lambda: how_many_lots(one, BIG, number)):
                with self.assertRaises(InvalidNumber) as caught:
                    asked()
                self.assertIs(caught.exception.value, number)

    def test_sets_that_are_not_good(self):
        for told in plain.NOT_GOOD:
            lets = Lets(*told)
            self.assertIs(is_lot(lets, 5, [0]), True)
            for asked in (lambda: class_last(lets, None), lambda: without_last(lets, None, None),
                          lambda: how_many_lots(lets, None, None), lambda: most_last(lets, None)):
                with self.assertRaises(InvalidLets) as caught:
                    asked()
                self.assertIs(caught.exception.value, lets)


if __name__ == "__main__":
    unittest.main()
