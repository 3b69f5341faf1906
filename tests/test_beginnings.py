"""[41], [42] and [43] Common beginnings."""

import unittest
from itertools import product
from math import comb

import plain
from gapswaps.beginnings import (
    beginnings, both_left, common_beginning, common_going_on, greatest_beginning, how_many_beginnings,
)
from gapswaps.errors import InvalidLets, InvalidList, InvalidNumber, InvalidRow, TooMany
from gapswaps.lets import Lets
from gapswaps.travel import class_first, divided, without

BIG = 10 ** 29
NO_COUNTS = [None, True, False, -1, "0", [0], (0,), {}, Lets([1])]
LONG_ROWS = plain.LONG_ROWS + [[0, 0, 2, 4], [4, 2, 1, 0], [2, 1, 0, 5, 3]]


def heads(told, row, size):
    """All rows of a size that begin a row: the first items of all rows joined to it."""
    return {item[:size] for item in plain.classed(told, row)} if size <= len(row) else set()


def greatest_of(told, rows):
    """The first in order of the rows with the most items that begin all of some rows."""
    for size in range(min(len(row) for row in rows), -1, -1):
        common = set.intersection(*[heads(told, row, size) for row in rows])
        if common:
            return list(min(common))
    return None


class GreatestBeginningTest(unittest.TestCase):
    def test_the_first_of_those_with_the_most_items(self):
        for told in plain.FEW + [([2, 3], None), ([], 3)]:
            lets = Lets(*told)
            for one in plain.SHORT_ROWS + LONG_ROWS:
                for other in plain.SHORT_ROWS + LONG_ROWS:
                    self.assertEqual(greatest_beginning(lets, one, other), greatest_of(told, [one, other]))

    def test_each_that_begins_both_begins_it(self):
        for told in plain.FEW:
            lets = Lets(*told)
            for one in plain.SHORT_ROWS + LONG_ROWS:
                for other in plain.SHORT_ROWS + LONG_ROWS:
                    found = greatest_beginning(lets, one, other)
                    for size in range(min(len(one), len(other)) + 1):
                        for head in heads(told, one, size) & heads(told, other, size):
                            self.assertIn(head, heads(told, found, size))

    def test_what_is_left(self):
        for told in plain.FEW + [([2, 3], None), ([], 3)]:
            lets = Lets(*told)
            for one in plain.SHORT_ROWS + LONG_ROWS:
                for other in plain.SHORT_ROWS + LONG_ROWS:
                    found = greatest_beginning(lets, one, other)
                    left = both_left(lets, one, other)
                    self.assertEqual(left, (divided(lets, one, found), divided(lets, other, found)))
                    self.assertFalse(set(class_first(lets, left[0])) & set(class_first(lets, left[1])))

    def test_edges(self):
        many = Lets([], 1)
        for row in ([], [5], [0] * 100, [BIG, 0]):
            self.assertEqual(greatest_beginning(many, [], row), [])
            self.assertEqual((both_left(many, [], row), both_left(many, row, [])), (([], row), (row, [])))
            self.assertEqual(both_left(many, row, row), ([], []))
        self.assertEqual(greatest_beginning(many, [BIG, 0], [BIG, 0]), [0, BIG + 1])
        self.assertEqual(greatest_beginning(Lets([1]), [BIG, 0], [BIG, 0]), [BIG, 0])
        left = both_left(many, [1], [3])
        self.assertEqual(left, ([1], [3]))
        row = [1]
        self.assertIsNot(both_left(many, row, [3])[0], row)

    def test_wrong_arguments(self):
        for asked in (greatest_beginning, both_left):
            for row in ([-1], [True], None, (0,), [0] * 201, ["0"], [[0]]):
                for rows in ((row, None), (row, [0]), ([0], row)):
                    with self.assertRaises(InvalidRow) as caught:
                        asked(Lets([1]), *rows)
                    self.assertIs(caught.exception.value, row)


# Good: the numbers of the level k are 42 * k and the next ones, 7 * k in all, up to 6 levels.
LEVELS = Lets([42 * level + at for level in range(1, 7) for at in range(7 * level)])
FAR = 10 ** 6


def side_by_side(lengths):
    """A row by LEVELS of chains of at most 4 items: each one's stay as they stand, those of two change places freely."""
    found = []
    for number, length in enumerate(lengths):
        found += [42 * number + len(found)] * length
    return found


def wide(width):
    """A row by Lets([], 1) the items of which change places freely."""
    return [2 * at for at in range(width)]


def spread(lets, row):
    """How many classes of rows of each length begin a row, by what is left of it: told by its own first in order."""
    layer, found = {tuple(row)}, [1]
    for _ in row:
        left = [without(lets, list(rest), item) for rest in layer for item in class_first(lets, list(rest))]
        layer = {tuple(greatest_beginning(lets, rest, rest)) for rest in left}
        found.append(len(layer))
    return found


class BeginningsTest(unittest.TestCase):
    def test_all_classes_that_begin_a_row(self):
        for told in plain.GOOD:
            lets = Lets(*told)
            for row in plain.SHORT_ROWS + LONG_ROWS + plain.logs(4)[::3] + [[0, 1, 0, 3, 2, 1], [3, 3, 0, 0, 7], [9, 0, 7, 2, 5]]:
                many = 0
                for length in range(len(row) + 1):
                    firsts = {min(plain.row_class(told, list(head))) for head in heads(told, row, length)}
                    self.assertEqual(beginnings(lets, row, length), sorted(list(head) for head in firsts))
                    many += len(firsts)
                self.assertEqual(how_many_beginnings(lets, row), many)

    def test_great_numbers(self):
        many = Lets([], 1)
        self.assertEqual(beginnings(many, [0, BIG], 1), [[0], [BIG - 1]])
        self.assertEqual(beginnings(many, [BIG, BIG, 0], 1), [[0], [BIG]])
        self.assertEqual(beginnings(many, [BIG, BIG, 0], 3), [[0, BIG + 1, BIG + 1]])
        self.assertEqual(how_many_beginnings(many, [BIG, BIG, 0]), 6)
        self.assertEqual(beginnings(Lets([1]), [0, BIG], 1), [[0]])

    def test_too_many_at_once(self):
        many = Lets([], 1)
        for length in range(5):
            self.assertEqual(len(beginnings(many, wide(12), length)), comb(12, length))
        # There are 495 with 4 items and 792 with 5; from there on it is too late, though there is but one with 12.
        for length in range(5, 13):
            with self.assertRaises(TooMany) as caught:
                beginnings(many, wide(12), length)
            self.assertEqual(caught.exception.value, 501)

    def test_500_at_once_are_not_too_many(self):
        many = Lets([], 1)
        row = [14, 5, 9, 25, 10, 17, 16, 15, 3, 21, 9, 13, 23, 29, 14]
        found = [1, 9, 38, 102, 201, 319, 430, 500]
        found += found[::-1]
        self.assertEqual(spread(many, row), found)
        self.assertEqual([len(beginnings(many, row, length)) for length in range(16)], found)
        self.assertEqual(how_many_beginnings(many, row), sum(found))
        row = [14, 21, 9, 3, 7, 21, 3, 6, 0, 6, 20, 4, 19]
        self.assertEqual(spread(many, row)[:6], [1, 10, 47, 140, 301, 501])
        self.assertEqual([len(beginnings(many, row, length)) for length in range(5)], [1, 10, 47, 140, 301])
        for length in range(5, 14):
            self.assertRaises(TooMany, beginnings, many, row, length)

    def test_too_many_in_all(self):
        self.assertEqual(how_many_beginnings(LEVELS, side_by_side([4, 4, 4, 4, 1, 1])), 2500)
        row = side_by_side([4, 4, 4, 4, 1, 1, 1])
        self.assertEqual(how_many_beginnings(LEVELS, row), 5000)
        self.assertEqual(how_many_beginnings(LEVELS, side_by_side([4, 4, 4, 4, 1, 1]) + [FAR] * 22), 2522)
        for tried in (row + [FAR], [FAR] + row, row + [FAR] * 21, side_by_side([4, 4, 4, 4, 4, 4, 4])):
            with self.assertRaises(TooMany) as caught:
                how_many_beginnings(LEVELS, tried)
            self.assertEqual(caught.exception.value, 5001)
        for width in (13, 20, 40):
            self.assertRaises(TooMany, how_many_beginnings, Lets([], 1), wide(width))

    def test_edges(self):
        for lets in (Lets([]), Lets([1]), Lets([], 1)):
            self.assertEqual((beginnings(lets, [], 0), how_many_beginnings(lets, [])), ([[]], 1))
            self.assertEqual([beginnings(lets, [7], length) for length in range(2)], [[[]], [[7]]])
            self.assertEqual(how_many_beginnings(lets, [7]), 2)
        self.assertEqual(how_many_beginnings(Lets([]), [0] * 40), 41)

    def test_wrong_arguments(self):
        many = Lets([], 1)
        for length in NO_COUNTS + [4, BIG]:
            with self.assertRaises(InvalidNumber) as caught:
                beginnings(many, [2, 1, 0], length)
            self.assertEqual(caught.exception.value, length)
        # A wrong length is told ahead of too many rows.
        self.assertRaises(InvalidNumber, beginnings, many, wide(20), 21)
        for row in ([-1], [True], None, (0,), [0] * 201, ["0"], [[0]]):
            for asked in (lambda: beginnings(many, row, None), lambda: how_many_beginnings(many, row)):
                with self.assertRaises(InvalidRow) as caught:
                    asked()
                self.assertIs(caught.exception.value, row)


def shortest_going_on(told, rows, sizes):
    """The first in order of the shortest rows, of items that are not too great, that all of some rows begin."""
    top = max([item for row in rows for item in row], default=0) + sum(len(row) for row in rows)
    for size in sizes:
        found = [row for row in product(range(top), repeat=size) if all(tuple(one) in heads(told, row, len(one)) for one in rows)]
        if found:
            return list(found[0])
    return None


class ManyRowsTest(unittest.TestCase):
    def test_common_going_on(self):
        some = [[[0], [1], [2]], [[0], [2], [4]], [[0, 0], [2]], [[1], [3, 0]], [[2], [0]], [[0, 2], [1, 0]], [[1, 1]],
                [[3], [3], [3]], [[], [2]], [[0], [], [3]], [[2, 0], [0, 3]], [[1], [2], [1]]]
        for told in plain.FEW:
            for rows in some:
                expected = shortest_going_on(told, rows, range(4))
                self.assertEqual(common_going_on(Lets(*told), rows), expected, (told, rows))

    def test_each_row_begins_it(self):
        for told in plain.GOOD:
            lets = Lets(*told)
            for rows in ([[0], [2, 1], [1, 3, 0]], [[0, 2], [2, 0], [3]], [[2, 1, 0], [5]], LONG_ROWS[:5]):
                found = common_going_on(lets, rows)
                if found is not None:
                    for row in rows:
                        self.assertIsNotNone(divided(lets, found, row))
                    self.assertEqual(found, list(min(plain.row_class(told, found))))

    def test_going_ons_of_logs_are_logs(self):
        for told in plain.FEW:
            lets = Lets(*told)
            for one in plain.logs(3) + plain.logs(2):
                for other in plain.logs(3):
                    found = common_going_on(lets, [one, other])
                    if found is not None:
                        self.assertTrue(all(item <= at for at, item in enumerate(found)))
                    begun = common_beginning(lets, [one, other])
                    self.assertTrue(all(item <= at for at, item in enumerate(begun)))

    def test_common_beginning(self):
        for told in plain.FEW:
            for one in plain.SHORT_ROWS + LONG_ROWS:
                self.assertEqual(common_beginning(Lets(*told), [one]), list(min(plain.classed(told, one))))
                for other in LONG_ROWS:
                    for third in ([2, 1], [2, 0, 1], [0, 0, 2, 4]):
                        rows = [one, other, third]
                        self.assertEqual(common_beginning(Lets(*told), rows), greatest_of(told, rows))

    def test_edges(self):
        for lets in (Lets([]), Lets([1]), Lets([], 1)):
            self.assertEqual(common_going_on(lets, []), [])
            self.assertEqual(common_going_on(lets, [[]] * 8), [])
            self.assertEqual(common_beginning(lets, [[]] * 8), [])
            self.assertEqual((common_going_on(lets, [[5]]), common_beginning(lets, [[5]])), ([5], [5]))
        self.assertEqual(common_going_on(Lets([], 1), [[at] for at in range(8)]), [2 * at for at in range(8)])
        self.assertEqual(common_going_on(Lets([], 1), [[BIG], [0]]), [0, BIG + 1])
        rows = [[3, 1]]
        self.assertIsNot(common_beginning(Lets([1]), rows), rows[0])
        self.assertIsNot(common_going_on(Lets([1]), rows), rows[0])

    def test_wrong_lists(self):
        one = Lets([1])
        for rows in (None, True, 0, "", (), ([0],), {}, [0], [None], [[0], [-1]], [[True]], [(0,)], [[[0]]], [["0"]],
                     [[0]] * 9, [[0] * 201], one, [[0], [0], None]):
            for asked in (common_going_on, common_beginning):
                with self.assertRaises(InvalidList) as caught:
                    asked(one, rows)
                self.assertIs(caught.exception.value, rows)
        none = []
        with self.assertRaises(InvalidList) as caught:
            common_beginning(one, none)
        self.assertIs(caught.exception.value, none)

    def test_sets_that_are_not_good(self):
        for told in plain.NOT_GOOD:
            lets = Lets(*told)
            for asked in (lambda: greatest_beginning(lets, None, None), lambda: both_left(lets, None, None),
                          lambda: beginnings(lets, None, None), lambda: how_many_beginnings(lets, None),
                          lambda: common_going_on(lets, None), lambda: common_beginning(lets, None)):
                with self.assertRaises(InvalidLets) as caught:
                    asked()
                self.assertIs(caught.exception.value, lets)


if __name__ == "__main__":
    unittest.main()
