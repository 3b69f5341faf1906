"""Classes of joined logs, boxes of logs and lone logs, counted."""

from gapswaps.deeds import open_places
from gapswaps.errors import InvalidNumber, InvalidRow
from gapswaps.lasts import lots_counted
from gapswaps.lets import need_good, need_lean, need_lets
from gapswaps.masks import picked
from gapswaps.orders import is_log, is_whole, need_count

GREATEST_MODULUS = 1000


def how_many_classes(lets, length):
    """Return how many classes of logs of a length there are."""
    need_good(lets)
    need_count(length)
    lots = lots_counted(lets, length)
    found = [1]
    for many in range(1, length + 1):
        terms = [lots[many][size] * found[many - size] for size in range(1, len(lots[many]))]
        found.append(sum(terms[::2]) - sum(terms[1::2]))
    return found[length]


def _pair_counts(lets, length):
    """Return, for each number up to a length, how many two counts below it differ by 1 more than a number in a set.

    As many pairs of items, too, does a deed put for one another in logs of which they are the last two.
    """
    found = [0]
    near = 0
    for many in range(1, length + 1):
        near += 1 if many - 2 in lets else 0
        found.append(found[-1] + near)
    return found


def _times(one, other, modulus):
    """Return the product of two square tables of two lines, each told as a tuple of its four numbers, by a modulus."""
    a, b, c, d = one
    e, f, g, h = other
    return ((a * e + b * g) % modulus, (a * f + b * h) % modulus, (c * e + d * g) % modulus, (c * f + d * h) % modulus)


def _power(table, exponent, modulus):
    """Return the product of a table with itself, so many times, by a modulus."""
    found = (1, 0, 0, 1)
    square, rest = table, exponent
    while rest:
        if rest & 1:
            found = _times(square, found, modulus)
        square = _times(square, square, modulus)
        rest >>= 1
    return found


def _led_on(pairs, begin, end, modulus):
    """Return the table that leads from the numbers of classes for begin and begin - 1 to those for end and end - 1."""
    found = (1, 0, 0, 1)
    for many in range(begin + 1, end + 1):
        found = _times((many, -pairs[many], 1, 0), found, modulus)
    return found


def classes_rest(lets, length, modulus):
    """Return the rest of the number of classes of logs of a length by a modulus."""
    need_lean(lets)
    need_count(length)
    if not is_whole(modulus) or not 1 <= modulus <= GREATEST_MODULUS:
        raise InvalidNumber(modulus)
    # Behind all numbers of the set the pairs grow evenly: what leads on comes again after as many lengths as modulus.
    even = min(length, max(lets.numbers(), default=0) + 1)
    pairs = _pair_counts(lets, even + modulus)
    rounds, more = divmod(length - even, modulus)
    found = _led_on(pairs, 0, even, modulus)
    found = _times(_power(_led_on(pairs, even, even + modulus, modulus), rounds, modulus), found, modulus)
    found = _times(_led_on(pairs, even, even + more, modulus), found, modulus)
    return found[0] % modulus


def how_many_boxes(lets, length, size):
    """Return how many boxes of a size there are of logs of a length."""
    need_lets(lets)
    need_count(length)
    need_count(size)
    pairs = _pair_counts(lets, length)
    # For each length how many boxes there are, by their sizes; the last item stands alone or in a pair.
    before, found = [], [1]
    for many in range(1, length + 1):
        alone = [many * boxes for boxes in found] + [0]
        paired = [0] + [pairs[many] * boxes for boxes in before]
        paired = paired + [0] * (len(alone) - len(paired))
        before, found = found, [one + other for one, other in zip(alone, paired)]
    return found[size] if size < len(found) else 0


def is_lone(lets, row):
    """Return whether there is no deed of a row."""
    return open_places(lets, row) == []


def _may_follow(lets, item, behind):
    """Return whether there is no deed of two items that stand side by side."""
    return behind - item - 1 not in lets and item - behind not in lets


def _lone_ends(lets, length):
    """Return, for each place of a log and each item there, in how many ways the log can go on so that it is lone."""
    counts = [1] * length
    found = [counts]
    for at in reversed(range(1, length)):
        counts = [
            sum([many for behind, many in enumerate(counts) if _may_follow(lets, item, behind)]) for item in range(at)
        ]
        found.append(counts)
    return found[::-1]


def how_many_lone(lets, length):
    """Return how many logs of a length are lone."""
    need_lets(lets)
    need_count(length)
    # The first item of a log is 0.
    return _lone_ends(lets, length)[0][0] if length else 1


def lone_number(lets, log):
    """Return how many lone logs of the same length are ahead of a lone log."""
    need_lets(lets)
    if not is_log(log) or not is_lone(lets, log):
        raise InvalidRow(log)
    ends = _lone_ends(lets, len(log))
    found = 0
    for at in range(1, len(log)):
        found += sum([ends[at][item] for item in range(log[at]) if _may_follow(lets, log[at - 1], item)])
    return found


def lone_numbered(lets, length, number):
    """Return the lone log of a length ahead of which just so many are."""
    need_lets(lets)
    need_count(length)
    need_count(number)
    if number >= how_many_lone(lets, length):
        raise InvalidNumber(number)
    ends = _lone_ends(lets, length)
    found = [0] * min(length, 1)
    rest = number
    for at in range(1, length):
        items = [item for item in range(at + 1) if _may_follow(lets, found[-1], item)]
        place, rest = picked([ends[at][item] for item in items], rest)
        found.append(items[place])
    return found
