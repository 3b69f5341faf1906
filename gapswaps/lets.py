"""Sets of counts, told by a list and a start, and which of them are good."""

from gapswaps.errors import InvalidLets, InvalidList, InvalidNumber
from gapswaps.masks import mask_of, numbers_in
from gapswaps.orders import exchanged, is_count, is_order, is_whole, left_count

MOST_NUMBERS = 200
GREATEST = 1000
LONGEST_ASKED = 10000


def _may_be_told(value):
    """Return whether a value is a number that a caller may put into a set."""
    return is_whole(value) and 1 <= value <= GREATEST


def _are_numbers(value):
    """Return whether a value is a list of numbers that a set may be made of."""
    if not isinstance(value, list) or len(value) > MOST_NUMBERS:
        return False
    return all([_may_be_told(item) for item in value])


class Lets:
    """The set of the numbers of a list and, unless start is None, of all whole numbers from start on."""

    def __init__(self, numbers, start=None):
        if not _are_numbers(numbers):
            raise InvalidList(numbers)
        if start is not None and not _may_be_told(start):
            raise InvalidNumber(start)
        self._settle(numbers, start)

    def _settle(self, numbers, start):
        """Keep the least start and what is left below it, so that equal sets are kept alike."""
        table = {number: True for number in numbers}
        least = start
        while least is not None and least - 1 in table:
            least -= 1
        self._start = least
        self._numbers = sorted([number for number in table if least is None or number < least])
        self._table = {number: True for number in self._numbers}

    def numbers(self):
        """Return the numbers below the start, or all if the set is finite, in order."""
        return list(self._numbers)

    def start(self):
        """Return the least number from which on all are in the set, None if it is finite."""
        return self._start

    def __contains__(self, x):
        if not is_whole(x):
            return False
        if self._start is not None and x >= self._start:
            return True
        return x in self._table

    def __eq__(self, other):
        if not isinstance(other, Lets):
            return False
        return self._numbers == other._numbers and self._start == other._start


def set_of(numbers, start):
    """Return a set of any numbers: what is worked out may go beyond what a caller may tell."""
    found = Lets([])
    found._settle(numbers, start)
    return found


def need_lets(lets):
    """Refuse what is no set of counts."""
    if not isinstance(lets, Lets):
        raise InvalidLets(lets)


def need_good(lets):
    """Refuse what is no good set of counts."""
    if not good(lets):
        raise InvalidLets(lets)


def need_lean(lets):
    """Refuse what is no lean set of counts."""
    if not lean(lets):
        raise InvalidLets(lets)


def _end(lets):
    """Return a number from which on all are in the set, or none is."""
    if lets.start() is not None:
        return lets.start()
    return max(lets.numbers(), default=0) + 1


def _sums(mask):
    """Return the mask of the sums of two numbers of a mask."""
    found = 0
    for number in numbers_in(mask):
        found |= mask << number
    return found


def _fault_sums(mask, sums, top):
    """Return the mask of the sums below top such that just one of each one and the next number is in mask."""
    return sums & (mask ^ (mask >> 1)) & ((1 << top) - 1)


def _least_fault_sum(lets):
    """Return the least sum of two numbers of a set that makes a fault, None if there is none."""
    mask = mask_of(lets.numbers())
    sums = _sums(mask)
    # From here on, a sum and the number behind it are both in the set, or neither is.
    top = _end(lets)
    if lets.start() is not None:
        mask |= 1 << top
    return min(numbers_in(_fault_sums(mask, sums, top)), default=None)


def good(lets):
    """Return whether a set is good."""
    need_lets(lets)
    return _least_fault_sum(lets) is None


def lean(lets):
    """Return whether a set is lean."""
    need_lets(lets)
    if lets.start() is not None:
        return False
    mask = mask_of(lets.numbers())
    return not _sums(mask) & (mask | mask >> 1)


def least_sum(lets):
    """Return the two numbers of a set with the least sum that is in it, too, None if there are none."""
    mask = mask_of([number for number in range(1, 2 * _end(lets) + 1) if number in lets])
    total = min(numbers_in(_sums(mask) & mask), default=None)
    return None if total is None else _parts_of(lets, total)


def _parts_of(lets, total):
    """Return the least number of a set that makes a sum with another one of it, and this one."""
    least = min([number for number in range(1, total) if number in lets and total - number in lets])
    return (least, total - least)


def fault(lets):
    """Return the two numbers of the first fault of a set, None if it is good."""
    need_lets(lets)
    total = _least_fault_sum(lets)
    return None if total is None else _parts_of(lets, total)


def good_to(lets, length):
    """Return whether no two numbers of a set whose sum is at most length - 3 make a fault."""
    need_lets(lets)
    if not is_count(length) or length > LONGEST_ASKED:
        raise InvalidNumber(length)
    total = _least_fault_sum(lets)
    return total is None or total > length - 3


def holds_to(lets):
    """Return the greatest length to which a set is good, None if it is good to all."""
    need_lets(lets)
    total = _least_fault_sum(lets)
    return None if total is None else total + 2


def fault_row(lets):
    """Return a fault row of the shortest orders that there are, None if there is none."""
    found = fault(lets)
    if found is None:
        return None
    less, more = found
    middle = less + 1
    high = less + more + 2
    ahead = [number for number in range(1, high) if number != middle]
    # Round the six ways in which three numbers can stand, from the one exchange that is not let to itself.
    low_first, high_first = [0, middle, high], [high, middle, 0]
    ring = [low_first, [middle, 0, high], [middle, high, 0], high_first, [high, 0, middle], [0, high, middle]]
    begin = 2 if less + more in lets else 5
    return [ahead + ring[(begin + step) % 6] for step in range(6)]


def _exchanged_at(one, other):
    """Return the place at which two neighbours of an order change places to make another one, None if nowhere."""
    apart = [at for at, item in enumerate(one) if len(one) == len(other) and item != other[at]]
    if len(apart) == 2 and exchanged(one, apart[0]) == other:
        return apart[0]
    return None


def is_fault_row(lets, value):
    """Return whether a value is a fault row of a set."""
    need_lets(lets)
    if not isinstance(value, list) or len(value) != 6 or not all([is_order(item) for item in value]):
        return False
    told = []
    for at, order in enumerate(value):
        place = _exchanged_at(value[at - 1], order)
        if place is None:
            return False
        told.append(left_count(order, place) in lets)
    # The first exchange looked at is that of the last order and the first one.
    return told == [False, True, True, True, True, True]


def both(one, other):
    """Return the set of the numbers that are in both of two sets."""
    need_lets(one)
    need_lets(other)
    end = max(_end(one), _end(other))
    start = None if one.start() is None or other.start() is None else end
    return set_of([number for number in range(1, end) if number in one and number in other], start)


def within(one, other):
    """Return whether all numbers of one set are in another one."""
    return both(one, other) == one


def first_apart(one, other):
    """Return the least number that is in just one of two sets, None if they are equal."""
    need_lets(one)
    need_lets(other)
    end = max(_end(one), _end(other))
    return min([number for number in range(1, end + 1) if (number in one) != (number in other)], default=None)


def _closed(mask, top):
    """Return the least mask with all of a mask in which no sum below top makes a fault."""
    found = mask
    sums = _sums(found)
    while True:
        wrong = _fault_sums(found, sums, top)
        missing = (wrong | wrong << 1) & ~found
        if not missing:
            return found
        for number in numbers_in(missing):
            found |= 1 << number
            sums |= found << number


def least_good(lets):
    """Return the good set with all numbers of a set that is within all others."""
    need_lets(lets)
    mask = mask_of(lets.numbers())
    start = lets.start()
    if start is None:
        most = _end(lets) - 1
        # No sum of numbers below 2 * most is looked at beyond 4 * most: what stays below is closed for good.
        whole = _closed(mask, 4 * most)
        if whole < 1 << (2 * most):
            return set_of(numbers_in(whole), None)
        start = most
    whole = _closed(mask | 1 << start, start)
    return set_of([number for number in numbers_in(whole) if number < start], start)


def _good_masks(length):
    """Return the masks of the sets of whole numbers from 1 to length - 2 that are good to a length."""
    found = []
    for half in range(1 << (length - 2)):
        mask = half << 1
        if not _fault_sums(mask, _sums(mask), length - 2):
            found.append(mask)
    return found


def how_many_good(length):
    """Return how many sets of whole numbers from 1 to length - 2 are good to a length."""
    if not is_whole(length) or not 2 <= length <= 16:
        raise InvalidNumber(length)
    return len(_good_masks(length))


def good_sets(length):
    """Return the sets of whole numbers from 1 to length - 2 that are good to a length, as lists, in order."""
    if not is_whole(length) or not 2 <= length <= 12:
        raise InvalidNumber(length)
    return sorted([numbers_in(mask) for mask in _good_masks(length)])
