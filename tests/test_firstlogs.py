"""[35] and [36] One log for each class."""

import unittest

import plain
from gapswaps.classcounts import how_many_classes
from gapswaps.errors import InvalidLets, InvalidNumber, InvalidRow
from gapswaps.firstlogs import class_number, class_numbered, first_row, is_first, next_class
from gapswaps.lets import Lets

BIG = 10 ** 29
NO_COUNTS = [None, True, False, -1, "0", [0], (0,), {}, Lets([1])]


def first_of(classed):
    """The row of a class that is least from behind."""
    return min(classed, key=lambda row: row[::-1])


class FirstRowsTest(unittest.TestCase):
    def test_least_from_behind(self):
        for told in plain.GOOD:
            lets = Lets(*told)
            for row in plain.some_rows():
                first = list(first_of(plain.row_class(told, row)))
                self.assertEqual(first_row(lets, row), first)
                self.assertIs(is_first(lets, row), row == first)

    def test_equal_for_joined_rows_alone(self):
        for told in plain.GOOD:
            lets = Lets(*told)
            firsts = []
            for classed in plain.row_classes(told, plain.rows(3, 3) + plain.logs(4)):
                found = [first_row(lets, row) for row in classed]
                self.assertEqual(found, [found[0]] * len(found))
                firsts.append(tuple(found[0]))
            self.assertEqual(len(firsts), len(set(firsts)))

    def test_great_numbers(self):
        many = Lets([], 1)
        self.assertEqual(first_row(many, [0, BIG]), [BIG - 1, 0])
        self.assertEqual(first_row(many, [0] * 199 + [BIG]), [BIG - 199] + [0] * 199)
        self.assertIs(is_first(many, [BIG - 199] + [0] * 199), True)
        self.assertIs(is_first(many, [0] * 199 + [BIG]), False)
        self.assertEqual(first_row(Lets([]), [BIG, 0, 2]), [BIG, 0, 2])


class NumbersTest(unittest.TestCase):
    def test_classes_are_numbered_by_their_first_rows(self):
        for told in plain.GOOD:
            lets = Lets(*told)
            for length in range(6):
                classes = sorted(plain.row_classes(told, plain.logs(length)), key=first_of)
                firsts = [first_of(classed) for classed in classes]
                for number, classed in enumerate(classes[::1 + len(classes) // 40]):
                    number *= 1 + len(classes) // 40
                    behind = firsts[number + 1] if number + 1 < len(firsts) else None
                    self.assertEqual(class_numbered(lets, length, number), firsts[number])
                    for log in (classed[0], classed[-1]):
                        self.assertEqual(class_number(lets, log), number)
                        self.assertEqual(next_class(lets, log), behind)

    def test_next_class_lists_all_classes(self):
        for told in (([1], None), ([], 1), ([], 2), ([2, 4, 5], None)):
            lets = Lets(*told)
            for length in range(7):
                log, found = [0] * length, []
                while log is not None:
                    found.append(log)
                    log = next_class(lets, log)
                self.assertEqual(found, sorted(found))
                self.assertEqual(len(found), how_many_classes(lets, length))
                self.assertTrue(all(is_first(lets, log) for log in found))

    def test_there_and_back_for_long_logs(self):
        for told, length in (([1], None), 40), (([2, 3], None), 33), (([], 1), 14), (([1], 4), 13), (([], None), 20):
            lets = Lets(*told)
            many = how_many_classes(lets, length)
            for number in (0, 1, many // 3, many // 2, many - 2, many - 1):
                log = class_numbered(lets, length, number)
                self.assertIs(is_first(lets, log), True)
                self.assertEqual(class_number(lets, log), number)
                behind = class_numbered(lets, length, number + 1) if number + 1 < many else None
                self.assertEqual(next_class(lets, log), behind)
            for number in (many, many + 1, many + BIG):
                with self.assertRaises(InvalidNumber) as caught:
                    class_numbered(lets, length, number)
                self.assertEqual(caught.exception.value, number)

    def test_edges(self):
        for lets in (Lets([]), Lets([1]), Lets([], 1)):
            for log in ([], [0]):
                self.assertEqual((first_row(lets, log), is_first(lets, log)), (log, True))
                self.assertEqual((class_number(lets, log), next_class(lets, log)), (0, None))
                self.assertEqual(class_numbered(lets, len(log), 0), log)
                with self.assertRaises(InvalidNumber) as caught:
                    class_numbered(lets, len(log), 1)
                self.assertEqual(caught.exception.value, 1)

    def test_wrong_arguments(self):
        one = Lets([1])
        for log in ([1], [0, 2], None, (0,), [0] * 201, [True], "0", [0, BIG]):
            for asked in (class_number, next_class):
                with self.assertRaises(InvalidRow) as caught:
                    asked(one, log)
                self.assertIs(caught.exception.value, log)
        for number in NO_COUNTS:
            for asked in (lambda: class_numbered(one, number, None), lambda: class_numbered(one, 3, number),
                          lambda: class_numbered(one, BIG, number)):
                with self.assertRaises(InvalidNumber) as caught:
                    asked()
                self.assertIs(caught.exception.value, number)
        for told in plain.NOT_GOOD:
            lets = Lets(*told)
            for asked in (lambda: first_row(lets, None), lambda: is_first(lets, None), lambda: class_number(lets, None),
                          lambda: class_numbered(lets, None, None), lambda: next_class(lets, None)):
                with self.assertRaises(InvalidLets) as caught:
                    asked()
                self.assertIs(caught.exception.value, lets)


if __name__ == "__main__":
    unittest.main()
