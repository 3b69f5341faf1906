"""[37] From behind."""

import unittest
from itertools import permutations

import plain
from gapswaps.endings import both_ahead, greatest_ending, least_ended
from gapswaps.errors import InvalidLets, InvalidRow
from gapswaps.firstlogs import first_row
from gapswaps.lets import Lets
from gapswaps.travel import joined

BIG = 10 ** 29


def ends(told, row, other):
    """Whether other is joined to a row whose last items row is."""
    return any(list(item[len(item) - len(row):]) == row for item in plain.classed(told, other) if len(item) >= len(row))


def ended(told, one, other, size):
    """All rows of a size, of items that are not too great, that both rows end."""
    top = max(one + other, default=0) + 2
    return [more + one for more in plain.rows(size - len(one), top) if ends(told, other, more + one)]


class AheadTest(unittest.TestCase):
    def test_rows_of_one_item(self):
        for told in plain.GOOD:
            lets = Lets(*told)
            for one in range(8):
                for other in range(8):
                    low, high = sorted([one, other])
                    expected = None
                    if one == other:
                        expected = ([], [])
                    elif plain.has(told, high - low - 1):
                        expected = ([high - 1], [low]) if one < other else ([low], [high - 1])
                    self.assertEqual(both_ahead(lets, [one], [other]), expected)

    def test_no_shorter_rows_do(self):
        for told in plain.FEW:
            lets = Lets(*told)
            for one, other in plain.row_pairs():
                found = both_ahead(lets, one, other)
                least = len(one) + len(other) + 1 if found is None else len(found[0] + one)
                for size in range(max(len(one), len(other)), least):
                    self.assertEqual(ended(told, one, other, size), [], (told, one, other))
                if found is None:
                    self.assertIsNone(least_ended(lets, one, other))
                else:
                    self.assertIn(tuple(found[1] + other), plain.classed(told, found[0] + one))
                    whole = least_ended(lets, one, other)
                    self.assertEqual(len(whole), least)
                    self.assertEqual(whole[len(found[0]):], one)
                    self.assertIn(tuple(whole), plain.classed(told, found[0] + one))

    def test_the_least_of_three_whichever_two_are_taken_first(self):
        """Where this holds for all three counts, the table finds the least rows for longer rows, too."""
        met = 0
        for told in plain.GOOD:
            lets = Lets(*told)
            for high in range(12):
                for middle in range(high + 1):
                    wholes = []
                    for one, other, last in permutations((0, middle, high)):
                        both = least_ended(lets, [one], [other])
                        wholes.append(None if both is None else least_ended(lets, both, [last]))
                    self.assertEqual(wholes.count(None) % 6, 0)
                    if wholes[0] is not None:
                        met += 1
                        self.assertTrue(all(joined(lets, wholes[0], whole) for whole in wholes))
        self.assertGreater(met, 200)

    def test_the_least_ends_each_that_both_end(self):
        met = 0
        for told in plain.FEW:
            lets = Lets(*told)
            for one, other in plain.row_pairs():
                least = least_ended(lets, one, other)
                for size in range(max(len(one), len(other)), 5 if max(one + other, default=0) < 3 else 4):
                    for row in ended(told, one, other, size)[::3]:
                        self.assertTrue(ends(told, least, row))
                        met += 1
        self.assertGreater(met, 1000)

    def test_rows_cancel_from_behind(self):
        for told in plain.FEW:
            for one in plain.rows(2, 4):
                for other in plain.rows(2, 4):
                    for more in ([0], [3], [1, 3]):
                        self.assertIs(tuple(other + more) in plain.classed(told, one + more), tuple(other) in plain.classed(told, one))

    def test_edges(self):
        many = Lets([], 1)
        for row in ([], [5], [0] * 100, [BIG, 0]):
            self.assertEqual((both_ahead(many, row, row), least_ended(many, row, row)), (([], []), row))
            self.assertEqual((both_ahead(many, [], row), both_ahead(many, row, [])), ((row, []), ([], row)))
            self.assertEqual((least_ended(many, [], row), least_ended(many, row, [])), (row, row))
        self.assertEqual(both_ahead(many, [0], [BIG]), ([BIG - 1], [0]))
        self.assertEqual(least_ended(many, [BIG], [0]), [0, BIG])
        self.assertIsNone(both_ahead(Lets([1]), [0], [BIG]))
        self.assertEqual(len(least_ended(many, [0] * 100, list(range(300, 100, -2)))), 200)


class GreatestEndingTest(unittest.TestCase):
    def test_the_first_row_of_those_with_the_most_items(self):
        for told in plain.FEW + [([2, 3], None), ([], 3)]:
            lets = Lets(*told)
            for one in plain.SHORT_ROWS + plain.LONG_ROWS:
                for other in plain.SHORT_ROWS + plain.LONG_ROWS:
                    found = greatest_ending(lets, one, other)
                    tails = [
                        {item[len(item) - size:] for item in plain.classed(told, row)}
                        for row, size in ((row, size) for row in (one, other) for size in (len(found), len(found) + 1))
                        if size <= len(row)
                    ]
                    if len(found) < min(len(one), len(other)):
                        self.assertFalse(tails[1] & tails[3])
                    self.assertTrue(ends(told, found, one) and ends(told, found, other))
                    self.assertEqual(first_row(lets, found), found)

    def test_each_that_ends_both_ends_it(self):
        for told in plain.FEW:
            lets = Lets(*told)
            for one in plain.SHORT_ROWS + plain.LONG_ROWS:
                for other in plain.SHORT_ROWS + plain.LONG_ROWS:
                    found = greatest_ending(lets, one, other)
                    for size in range(min(len(one), len(other)) + 1):
                        tails = {item[len(item) - size:] for item in plain.classed(told, one)}
                        for tail in tails & {item[len(item) - size:] for item in plain.classed(told, other)}:
                            self.assertTrue(ends(told, list(tail), found))

    def test_edges(self):
        many = Lets([], 1)
        self.assertEqual(greatest_ending(many, [], [3]), [])
        self.assertEqual(greatest_ending(many, [], []), [])
        self.assertEqual(greatest_ending(many, [3], [3]), [3])
        self.assertEqual(greatest_ending(many, [0, 5], [0, 5]), [4, 0])
        self.assertEqual(greatest_ending(many, [BIG, 0], [BIG + 1]), [BIG + 1])
        self.assertEqual(greatest_ending(Lets([]), [1, 2, 3], [0, 2, 3]), [2, 3])

    def test_wrong_arguments(self):
        for asked in (both_ahead, least_ended, greatest_ending):
            for row in ([-1], [True], None, (0,), [0] * 201, ["0"], [[0]]):
                for rows in ((row, None), (row, [0]), ([0], row)):
                    with self.assertRaises(InvalidRow) as caught:
                        asked(Lets([1]), *rows)
                    self.assertIs(caught.exception.value, row)
            for told in plain.NOT_GOOD:
                lets = Lets(*told)
                with self.assertRaises(InvalidLets) as caught:
                    asked(lets, None, None)
                self.assertIs(caught.exception.value, lets)


if __name__ == "__main__":
    unittest.main()
