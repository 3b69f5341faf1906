"""Sheets, a set of counts and some rows, written as texts and read from them."""

from gapswaps.errors import InvalidLets, InvalidLines, InvalidList
from gapswaps.lets import GREATEST, MOST_NUMBERS, Lets, need_lets
from gapswaps.orders import LONGEST, is_row

MOST_ROWS = 100
MOST_FIGURES = 30


def _are_rows(value):
    """Return whether a value is a list of rows that a sheet may have."""
    if not isinstance(value, list) or len(value) > MOST_ROWS or not all([is_row(row) for row in value]):
        return False
    return all([item < 10 ** 30 for row in value for item in row])


def _words(first, numbers):
    """Return the list of a word and of some numbers, written."""
    return [first] + [str(number) for number in numbers]


def sheet_text(lets, rows):
    """Return the text of a sheet."""
    need_lets(lets)
    numbers = lets.numbers()
    if len(numbers) > MOST_NUMBERS or max(numbers, default=0) > GREATEST:
        raise InvalidLets(lets)
    if not _are_rows(rows):
        raise InvalidList(rows)
    ending = [] if lets.start() is None else _words("from", [lets.start()])
    lines = [_words("lets", numbers) + ending] + [_words("row", row) for row in rows]
    return "".join([" ".join(words) + "\n" for words in lines])


def _lines_of(text):
    """Return the lines of a text, without their ends: what stands behind the last end is one unless it is empty."""
    lines = text.split("\n")
    return lines if lines[-1] else lines[:-1]


def _words_of(line):
    """Return the words of a line, without those of its remark."""
    told, _, _ = line.partition("#")
    return [word for word in told.split(" ") if word]


def _number_in(word):
    """Return the number that a word tells, None if it tells none or one of too many figures."""
    if len(word) > MOST_FIGURES or not all([letter in "0123456789" for letter in word]):
        return None
    return None if len(word) > 1 and word[0] == "0" else int(word)


def _numbers_told(words):
    """Return the list of the numbers that some words tell, None if one of them tells none."""
    numbers = [_number_in(word) for word in words]
    return None if None in numbers else numbers


def _lets_in(words):
    """Return the numbers and the start that the words of a line tell for a set, None if they tell none."""
    if words[0] != "lets":
        return None
    told = len(words)
    if "from" in words:
        told = words.index("from")
        if told != len(words) - 2:
            return None
    numbers = _numbers_told(words[1:told] + words[told + 1:])
    if numbers is None or told - 1 > MOST_NUMBERS or not all([1 <= number <= GREATEST for number in numbers]):
        return None
    return numbers[:told - 1], numbers[told - 1] if told < len(words) else None


def _row_in(words):
    """Return the row that the words of a line tell, None if they tell none."""
    if words[0] != "row" or len(words) - 1 > LONGEST:
        return None
    return _numbers_told(words[1:])


def _read(text):
    """Return what a text tells for a set, its rows, and the number of its first wrong line.

    None stands for what is not told, and for no wrong line.
    """
    told, rows = None, []
    lines = _lines_of(text)
    for at, line in enumerate(lines):
        words = _words_of(line)
        if words and told is None:
            told = _lets_in(words)
            if told is None:
                return None, rows, at + 1
        elif words:
            row = _row_in(words)
            if row is None or len(rows) == MOST_ROWS:
                return told, rows, at + 1
            rows.append(row)
    return told, rows, len(lines) + 1 if told is None else None


def read_sheet(text):
    """Return the tuple of the set and the list of the rows that a text tells."""
    if not isinstance(text, str):
        raise InvalidLines(text)
    told, rows, wrong = _read(text)
    if wrong is not None:
        raise InvalidLines(text)
    return Lets(told[0], told[1]), rows


def wrong_line(text):
    """Return None for a text that can be read, otherwise the number of the line with which it goes wrong."""
    if not isinstance(text, str):
        raise InvalidLines(text)
    return _read(text)[2]
