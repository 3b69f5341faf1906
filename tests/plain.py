"""Plain counts that go through all cases of small size, straight from the words of the document.

A told set is a tuple (numbers, start); nothing here calls the package.
"""

from functools import cache
from itertools import combinations, permutations, product

# Good sets, the lean ones first; test_lets checks with has_fault that they are what they are said to be.
LEAN = [([], None), ([1], None), ([2], None), ([3], None), ([2, 3], None), ([1, 4], None), ([4, 5, 6], None)]
GOOD = LEAN + [([], 1), ([], 2), ([], 3), ([], 4), ([2, 4, 5], None), ([1], 4), ([3, 6, 7], None), ([2], 4)]
NOT_GOOD = [([1, 2], None), ([1, 3], None), ([2, 4], None), ([1], 3), ([1, 2, 3], None), ([2], 5), ([3, 5, 6], None)]
# Some of these for what takes longer, and rows for it.
FEW = [([], None), ([1], None), ([2], None), ([1, 4], None), ([], 1), ([], 2), ([2, 4, 5], None), ([1], 4)]
SHORT_ROWS = [[], [0], [2], [3], [0, 0], [0, 2], [1, 0], [2, 0], [2, 1], [1, 3], [3, 1], [0, 3], [4, 0]]
LONG_ROWS = [[2, 0, 1], [1, 3, 0], [0, 2, 4], [3, 3, 0], [1, 1, 4]]


def has(told, number):
    numbers, start = told
    return number in numbers or (start is not None and number >= start)


def members(told, top):
    return [number for number in range(1, top + 1) if has(told, number)]


def has_fault(told, x, y):
    return has(told, x + y) != has(told, x + y + 1)


def faults(told, top):
    """All faults (x, y), x at most y, with numbers up to top: the one with the least sum, then x, first."""
    numbers = members(told, top)
    found = [(x, y) for x in numbers for y in numbers if x <= y and has_fault(told, x, y)]
    return sorted(found, key=lambda pair: (pair[0] + pair[1], pair[0]))


def is_lean(told, top):
    numbers = members(told, top)
    return not any(has(told, x + y) or has(told, x + y + 1) for x in numbers for y in numbers)


def closed(told, top):
    """All numbers up to top that any good set with the told ones has, closed far beyond top."""
    far = 4 * top
    inside = [has(told, number) for number in range(far + 2)]
    changed = True
    while changed:
        changed = False
        for x in range(1, far):
            for y in range(x, far - x + 1):
                if inside[x] and inside[y] and inside[x + y] != inside[x + y + 1]:
                    inside[x + y] = inside[x + y + 1] = changed = True
    return [number for number in range(1, top + 1) if inside[number]]


def orders(length):
    return [list(order) for order in permutations(range(length))]


def rows(length, most):
    return [list(row) for row in product(range(most + 1), repeat=length)]


def logs(length):
    return [list(log) for log in product(*[range(at + 1) for at in range(length)])]


def log_of(order):
    return [sum(1 for other in order[:at] if other < item) for at, item in enumerate(order)]


def count_left(order, at):
    one, other = order[at], order[at + 1]
    return sum(1 for item in order[:at] if min(one, other) < item < max(one, other))


def swapped(order, at):
    found = list(order)
    found[at], found[at + 1] = found[at + 1], found[at]
    return found


def order_deeds(told, order):
    """The list of (place, order behind) of all let deeds."""
    return [(at, swapped(order, at)) for at in range(len(order) - 1) if has(told, count_left(order, at))]


def row_deeds(told, row):
    """The list of (place, row behind) of all deeds, by trying all a and d."""
    found = []
    for at in range(len(row) - 1):
        one, other = row[at], row[at + 1]
        for d in range(1, abs(one - other) + 1):
            for a in {one, other}:
                if has(told, d):
                    for pair, put in (((a, a + d + 1), (a + d, a)), ((a + d, a), (a, a + d + 1))):
                        if (one, other) == pair:
                            found.append((at, row[:at] + list(put) + row[at + 2:]))
    return found


def reached(deeds, told, begin):
    """A dict of all orders or rows that are joined to one, as tuples, with their distance from it."""
    found = {tuple(begin): 0}
    layer = [begin]
    while layer:
        more = []
        for thing in layer:
            for _, behind in deeds(told, thing):
                if tuple(behind) not in found:
                    found[tuple(behind)] = found[tuple(thing)] + 1
                    more.append(behind)
        layer = more
    return found


def order_class(told, order):
    return reached(order_deeds, told, order)


def row_class(told, row):
    return reached(row_deeds, told, row)


def order_classes(told, length):
    """All classes of the orders of a length, each as an ascending list of lists."""
    found, seen = [], set()
    for order in orders(length):
        if tuple(order) not in seen:
            one = sorted(list(item) for item in order_class(told, order))
            seen.update(tuple(item) for item in one)
            found.append(one)
    return found


def pairs(length):
    return [(low, high) for low in range(length) for high in range(low + 1, length)]


def unlike(one, other):
    return [
        (low, high) for low, high in pairs(len(one))
        if (one.index(low) < one.index(high)) != (other.index(low) < other.index(high))
    ]


def exchange_ways(one, other):
    """All lists of exchanges of neighbours, let or not, that are as short as can be, in order."""
    if one == other:
        return [[]]
    found = []
    for at in range(len(one) - 1):
        if other.index(one[at]) > other.index(one[at + 1]):
            found += [[at] + rest for rest in exchange_ways(swapped(one, at), other)]
    return found


def let_ways(told, one, other, far):
    """All lists of so many let deeds that lead from one order to another one, in order."""
    if not far:
        return [[]] if one == other else []
    found = []
    for at, behind in order_deeds(told, one):
        found += [[at] + rest for rest in let_ways(told, behind, other, far - 1)]
    return found


def orders_along(one, way):
    found = [one]
    for at in way:
        found.append(swapped(found[-1], at))
    return found


def sure(orders_joined):
    """The list of all (left, right) of which the first is left of the second in all of some orders."""
    length = len(orders_joined[0])
    places = [{item: at for at, item in enumerate(order)} for order in orders_joined]
    return [
        (left, right) for left in range(length) for right in range(length)
        if left != right and all(place[left] < place[right] for place in places)
    ]


def _classes(lengths):
    for told in GOOD:
        for length in lengths:
            for classed in order_classes(told, length):
                yield told, classed
    for told, length, step in ((([], 1), 6, 9), (([1], None), 6, 13), (([], 2), 6, 29), (([2, 3], None), 6, 41)):
        seen = set()
        for order in orders(length)[::step]:
            if tuple(order) not in seen:
                classed = sorted(list(other) for other in order_class(told, order))
                seen.update(tuple(other) for other in classed)
                yield told, classed


@cache
def some_classes():
    """All classes of small orders by all good sets, and some of longer orders: tuples of a told set and a class."""
    return list(_classes(range(6)))


@cache
def _row_class(numbers, start, row):
    return row_class((numbers, start), list(row))


def classed(told, row):
    """The class of a row, kept for the next time."""
    return _row_class(tuple(told[0]), told[1], tuple(row))


@cache
def some_rows():
    """All rows of few small items, and some of more."""
    longer = [[0, 0, 2, 4], [4, 2, 1, 0], [0, 3, 0, 3], [2, 2, 0, 0], [0, 1, 3, 6], [6, 3, 1, 0], [0, 0, 0, 2, 4]]
    return rows(0, 0) + rows(1, 3) + rows(2, 4) + rows(3, 3) + LONG_ROWS + longer


def row_pairs():
    """Tuples of two short rows, one of which may be longer."""
    return [(one, other) for one in SHORT_ROWS + LONG_ROWS for other in SHORT_ROWS if len(one) + len(other) < 5]


def row_classes(told, some):
    """All classes of some rows, each as an ascending list of lists."""
    found, seen = [], set()
    for row in some:
        if tuple(row) not in seen:
            one = sorted(list(item) for item in row_class(told, row))
            seen.update(tuple(item) for item in one)
            found.append(one)
    return found


def lots(told, length):
    """All lots below a length, straight from all sets of counts."""
    found = []
    for mask in range(1 << length):
        lot = [item for item in range(length) if mask >> item & 1]
        if all(has(told, high - low - 1) for low in lot for high in lot if low < high):
            found.append(lot)
    return found


# Trees are told by their links, and a told rule is a tuple (links, table), the table a set of (low, high, frozenset).
TREES = [
    [], [(0, 1)], [(0, 1), (1, 2)], [(0, 1), (0, 2)], [(0, 2), (1, 2)], [(0, 1), (1, 2), (2, 3)],
    [(0, 1), (0, 2), (0, 3)], [(0, 3), (1, 3), (2, 3)], [(0, 2), (0, 3), (1, 3)], [(0, 3), (1, 2), (1, 3)],
]
WIDER_TREES = [
    [(0, 1), (1, 2), (2, 3), (3, 4)], [(0, 1), (0, 2), (0, 3), (0, 4)], [(0, 4), (1, 2), (2, 4), (3, 4)],
    [(0, 3), (1, 3), (2, 4), (3, 4)],
]


def tree_way(links, one, other):
    """The numbers from one to the other, as they are linked, by trying all ways."""
    ways = [[one]]
    while ways:
        way = ways.pop()
        if way[-1] == other:
            return way
        for link in links:
            if way[-1] in link:
                number = link[1] if link[0] == way[-1] else link[0]
                if number not in way:
                    ways.append(way + [number])
    return None


def tree_between(links, one, other):
    return sorted(tree_way(links, one, other)[1:-1])


def subsets(numbers):
    return [list(part) for size in range(len(numbers) + 1) for part in combinations(numbers, size)]


def tree_lets(links):
    """All lets of a tree, in order."""
    return sorted((low, high, lot) for low, high in pairs(len(links) + 1) for lot in subsets(tree_between(links, low, high)))


def told_rule(links, items):
    return (links, {(low, high, frozenset(lot)) for low, high, lot in items})


def rule_has(told, one, other, left):
    """Whether two numbers may change places where just those of left are left of both."""
    links, table = told
    low, high = min(one, other), max(one, other)
    return (low, high, frozenset(left) & frozenset(tree_between(links, low, high))) in table


def rule_faults(told):
    """All faults of a rule, in order, straight from the words."""
    found = []
    for low, high in pairs(len(told[0]) + 1):
        over = tree_between(told[0], low, high)
        for middle in over:
            for lot in subsets([number for number in over if number != middle]):
                if rule_has(told, low, middle, lot) and rule_has(told, middle, high, lot):
                    if rule_has(told, low, high, lot) != rule_has(told, low, high, lot + [middle]):
                        found.append((low, middle, high, lot))
    return sorted(found)


@cache
def _rules(links):
    items = tree_lets(list(links))
    return [[item for at, item in enumerate(items) if mask >> at & 1] for mask in range(1 << len(items))]


def rules(links):
    """The lists of lets of all rules of a small tree."""
    return _rules(tuple(links))


@cache
def _even_rules(links):
    return [items for items in rules(links) if not rule_faults(told_rule(list(links), items))]


def even_rules(links):
    """The lists of lets of all even rules of a small tree."""
    return _even_rules(tuple(links))


def rule_deeds(told, order):
    """The list of (place, order behind) of all deeds that a rule lets."""
    return [(at, swapped(order, at)) for at in range(len(order) - 1)
            if rule_has(told, order[at], order[at + 1], order[:at])]


def rule_class(told, order):
    return reached(rule_deeds, told, order)


def rule_classes(told):
    """All classes of orders joined by a rule, each as an ascending list of lists."""
    found, seen = [], set()
    for order in orders(len(told[0]) + 1):
        if tuple(order) not in seen:
            one = sorted(list(item) for item in rule_class(told, order))
            seen.update(tuple(item) for item in one)
            found.append(one)
    return found
