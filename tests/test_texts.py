"""[60] Sheets as texts."""

import re
import unittest
from itertools import product

import plain
from gapswaps.errors import InvalidLets, InvalidLines, InvalidList
from gapswaps.lets import Lets, both, least_good
from gapswaps.orders import is_row
from gapswaps.texts import read_sheet, sheet_text, wrong_line

BIG = 10 ** 29
ROWS = [[], [0], [0, 3], [BIG, 0, 10 ** 30 - 1], list(range(200)), [7] * 200]
NUMBER = "(?:0|[1-9][0-9]*)"
LETS_LINE = re.compile(f" *lets((?: +{NUMBER})*)(?: +from +({NUMBER}))? *(?:#.*)?")
ROW_LINE = re.compile(f" *row((?: +{NUMBER})*) *(?:#.*)?")
NO_WORD = re.compile(" *(?:#.*)?")
NO_TEXTS = [None, True, False, 0, 7, [], ["lets"], (), ("lets",), {}, Lets([1])]


def lines_of(text):
    lines = text.split("\n")
    return lines[:-1] if lines[-1] == "" else lines


def plain_read(text):
    """The numbers, the start and the rows that a text tells, None if it cannot be read."""
    lines = [line for line in lines_of(text) if not NO_WORD.fullmatch(line)]
    first = LETS_LINE.fullmatch(lines[0]) if lines else None
    if first is None or len(lines) > 101:
        return None
    numbers = [int(word) for word in first.group(1).split()]
    start = None if first.group(2) is None else int(first.group(2))
    if len(numbers) > 200 or not all(1 <= number <= 1000 for number in numbers + [start or 1]) or start == 0:
        return None
    rows = []
    for line in lines[1:]:
        found = ROW_LINE.fullmatch(line)
        if found is None:
            return None
        rows.append([int(word) for word in found.group(1).split()])
        if not is_row(rows[-1]) or any(item >= 10 ** 30 for item in rows[-1]):
            return None
    return numbers, start, rows


def plain_wrong_line(text):
    """By the words of the document: whether some text that is read begins with the first lines, for each number."""
    if plain_read(text) is not None:
        return None
    lines = lines_of(text)
    for number in range(1, len(lines) + 1):
        begun = "".join(line + "\n" for line in lines[:number])
        if plain_read(begun) is None and plain_read(begun + "lets\n") is None:
            return number
    return len(lines) + 1


class Held(unittest.TestCase):
    def check(self, text):
        told = plain_read(text)
        self.assertEqual(wrong_line(text), plain_wrong_line(text), text)
        if told is None:
            with self.assertRaises(InvalidLines) as caught:
                read_sheet(text)
            self.assertIs(caught.exception.value, text)
        else:
            found = read_sheet(text)
            self.assertIsInstance(found, tuple)
            self.assertEqual(found, (Lets(told[0], told[1]), told[2]))
        return told is not None


class WrittenTest(unittest.TestCase):
    def test_written_and_read_back(self):
        sets = [Lets(*told) for told in plain.GOOD + plain.NOT_GOOD]
        sets += [Lets(list(range(1, 400, 2))), Lets([1000]), Lets([], 1000), Lets([1, 999], 1000), Lets([1] * 200, 1)]
        for lets in sets:
            for rows in ([], [[]], ROWS, ROWS[::-1], [[0]] * 100, [[]] * 100):
                text = sheet_text(lets, rows)
                self.assertEqual(read_sheet(text), (lets, rows))
                self.assertIsNone(wrong_line(text))
                self.assertEqual(sheet_text(*read_sheet(text)), text)

    def test_how_it_is_written(self):
        self.assertEqual(sheet_text(Lets([]), []), "lets\n")
        self.assertEqual(sheet_text(Lets([], 1), [[]]), "lets from 1\nrow\n")
        self.assertEqual(sheet_text(Lets([3, 1, 3]), [[0], [10, 0]]), "lets 1 3\nrow 0\nrow 10 0\n")
        self.assertEqual(sheet_text(Lets([4, 2], 5), [[BIG]]), "lets 2 from 4\nrow 1" + "0" * 29 + "\n")

    def test_sets_that_cannot_be_written(self):
        # Good sets above told ones may have more and greater numbers than a caller may tell.
        wide, high = least_good(Lets(list(range(300, 390)) + list(range(600, 640)))), least_good(Lets([500, 1000]))
        self.assertEqual((len(wide.numbers()), wide.start(), high.numbers()), (270, None, [500, 1000, 1001]))
        wider = both(Lets([], 1), wide)
        endless = least_good(Lets(wide.numbers()[:130], 1000))
        self.assertEqual((len(endless.numbers()), endless.start()), (270, 900))
        for lets in (None, True, 1, [1], (1,), "lets", {}, wide, high, wider, endless):
            for rows in ([], None, [[]] * 101):
                with self.assertRaises(InvalidLets) as caught:
                    sheet_text(lets, rows)
                self.assertIs(caught.exception.value, lets)

    def test_just_two_hundred_numbers(self):
        whole = Lets(list(range(2, 402, 2)), 1000)
        self.assertEqual(read_sheet(sheet_text(whole, [])), (whole, []))
        whole = Lets(list(range(801, 1001)))
        self.assertEqual(read_sheet(sheet_text(whole, [])), (whole, []))

    def test_wrong_rows(self):
        wrong = [None, True, 0, (), ([0],), {}, "row", [None], [0], [(0,)], [[-1]], [[True]], [["0"]], [[0], None],
                 [None, [0]], [[10 ** 30]], [[0, 10 ** 31]], [[]] * 101, [[0] * 201], [[[0]]], Lets([1]), [Lets([1])]]
        for rows in wrong:
            with self.assertRaises(InvalidList) as caught:
                sheet_text(Lets([1]), rows)
            self.assertIs(caught.exception.value, rows)
        self.assertEqual(sheet_text(Lets([1]), [[10 ** 30 - 1]]), "lets 1\nrow " + "9" * 30 + "\n")

    def test_nothing_is_changed(self):
        rows = [[1, 0]]
        text = sheet_text(Lets([1]), rows)
        read_sheet(text)[1][0].append(9)
        rows[0].append(5)
        self.assertEqual((read_sheet(text)[1], text), ([[1, 0]], "lets 1\nrow 1 0\n"))


class ReadTest(Held):
    def test_all_lines_of_few_words(self):
        words = ["lets", "row", "from", "1", "0", "01", "1000", "1001", "-1", "#", "\t", "x"]
        read = 0
        for many in range(5):
            for chosen in product(words, repeat=many):
                read += self.check(" ".join(chosen)) if many < 4 or chosen[0] in ("lets", "row") else 0
        self.assertGreater(read, 200)

    def test_all_texts_of_few_lines(self):
        lines = ["", "lets", "lets 2 from 1", "row", " row 0  12 # x", "# lets", "rows", "lets 0", "row 00"]
        read = 0
        for many in range(5):
            for chosen in product(lines, repeat=many):
                for ending in ("", "\n"):
                    read += self.check("\n".join(chosen) + ending)
        self.assertGreater(read, 500)

    def test_edges(self):
        for text, wrong in (
                ("", 1), ("\n", 2), ("\n\n", 3), (" ", 2), ("#", 2), ("lets", None), ("lets\n", None), ("  lets  ", None),
                ("lets#", None), ("lets#from", None), ("lets 1#2 0", None), ("le#ts", 1), ("lets from", 1),
                ("lets from 1 2", 1), ("lets from from 1", 1), ("lets from 1 from 1", 1), ("from 1", 1), ("lets from 01", 1),
                ("lets 1,2", 1), ("lets +1", 1), ("lets 1.0", 1), ("lets 1_0", 1), ("Lets 1", 1), ("LETS", 1), ("lets1", 1),
                ("lets\t1", 1), ("\tlets", 1), ("lets 1\t", 1), ("lets 1 #\t", None), ("#\t\nlets", None), ("\t\nlets", 1),
                ("lets\n\t", 2), ("lets\nrow\t1", 2), ("lets\nrow 1 0", None), ("lets\nrow 1\nrow x\nrow y", 3),
                ("row 1\nlets", 1), ("lets\n\n\nrow", None), ("\n\nrow", 3), ("lets\nrow from", 2), ("lets\nrow 1 from 2", 2),
                ("lets 1000", None), ("lets 1001", 1), ("lets 0", 1), ("lets from 1000", None), ("lets from 1001", 1),
                ("lets 5 5 5", None), ("lets 9 1 from 3", None), ("lets 1\nlets 1", 2), ("lets 1 row 1", 1),
                ("lets\nrow 0", None), ("lets\nrow 00", 2), ("lets\nrow 007", 2), ("lets\nrow -0", 2), ("lets 010", 1)):
            self.assertEqual(wrong_line(text), wrong, text)
            self.check(text)

    def test_many_numbers(self):
        self.assertTrue(self.check("lets" + " 1000" * 200))
        self.assertTrue(self.check("lets" + " 7" * 200 + " from 9"))
        self.assertFalse(self.check("lets" + " 7" * 201))
        self.assertFalse(self.check("lets" + " 7" * 201 + " from 9"))
        self.assertFalse(self.check("lets " + "9" * 4000))
        self.assertTrue(self.check("lets\nrow" + " 1" * 200))
        self.assertFalse(self.check("lets\nrow" + " 1" * 201))
        self.assertTrue(self.check("lets\nrow " + "9" * 30))
        self.assertFalse(self.check("lets\nrow 1" + "0" * 30))
        self.assertFalse(self.check("lets\nrow " + "9" * 4000))
        self.assertEqual((wrong_line("lets " + "9" * 9999), wrong_line("lets\nrow " + "1" * 9999)), (1, 2))

    def test_a_hundred_rows_and_one_more(self):
        whole = "lets 1\n" + "row 1\n\n# row\n" * 100
        self.assertTrue(self.check(whole))
        self.assertTrue(self.check(whole + "\n#\n  "))
        self.assertFalse(self.check(whole + "row"))
        self.assertEqual(wrong_line(whole + "row"), 302)
        self.assertEqual(wrong_line(whole + "\n\nrow 2\nx"), 304)
        self.assertEqual(wrong_line(whole + "lets"), 302)

    def test_what_is_no_text(self):
        for text in NO_TEXTS:
            for asked in (read_sheet, wrong_line):
                with self.assertRaises(InvalidLines) as caught:
                    asked(text)
                self.assertIs(caught.exception.value, text)


if __name__ == "__main__":
    unittest.main()
