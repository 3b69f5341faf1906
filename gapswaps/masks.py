"""Sets of counts kept as whole numbers, bit by bit, and the sets with which orders begin.

Where left is passed, it is a list with, for each number, the mask of ALL numbers that have to stand left
of it; a begun set is a mask of numbers with which an order can begin in which they do.
"""


def mask_of(numbers):
    """Return the mask of the numbers of a list."""
    found = 0
    for number in numbers:
        found |= 1 << number
    return found


def numbers_in(mask):
    """Return the list of the numbers of a mask, in order."""
    found = []
    while mask:
        lowest = mask & -mask
        found.append(lowest.bit_length() - 1)
        mask ^= lowest
    return found


def ones(mask):
    """Return how many numbers a mask has."""
    return f"{mask:b}".count("1")


def between_mask(one, other):
    """Return the mask of the numbers between two in size."""
    low, high = min(one, other), max(one, other)
    return (1 << high) - (1 << (low + 1))


def ahead_masks(order):
    """Return, for each number of an order, the mask of those that stand left of it."""
    found = [0] * len(order)
    passed = 0
    for number in order:
        found[number] = passed
        passed |= 1 << number
    return found


def right_masks(left):
    """Return, for each number, the mask of those that it has to stand left of."""
    found = [0] * len(left)
    for number, mask in enumerate(left):
        for other in numbers_in(mask):
            found[other] |= 1 << number
    return found


def next_behind(left):
    """Return, for each number, the list of those that have to stand right of it, and of none between."""
    right = right_masks(left)
    return [[other for other in numbers_in(mask) if not mask & left[other]] for mask in right]


def begun_sets(left):
    """Return, for each begun set, the list of the numbers that may come next; lesser sets come first."""
    after = next_behind(left)
    table = {0: [number for number, mask in enumerate(left) if not mask]}
    layer = [0]
    while layer:
        found = []
        for mask in layer:
            for number in list(table[mask]):
                more = mask | 1 << number
                if more not in table:
                    # Only what stands next behind the new number can have become free by it.
                    freed = [other for other in after[number] if not left[other] & ~more]
                    table[more] = sorted([other for other in table[mask] if other != number] + freed)
                    found.append(more)
        layer = found
    return table


def ends_counted(table):
    """Return, for each begun set, in how many ways an order can go on behind it."""
    counts = {}
    for mask in reversed(list(table)):
        counts[mask] = sum([counts[mask | 1 << number] for number in table[mask]]) if table[mask] else 1
    return counts


def number_among(left, order):
    """Return how many of the orders that keep left are ahead of one of them."""
    table = begun_sets(left)
    counts = ends_counted(table)
    found, mask = 0, 0
    for item in order:
        found += sum([counts[mask | 1 << number] for number in table[mask] if number < item])
        mask |= 1 << item
    return found


def picked(counts, number):
    """Return, of things each of which stands for so many, the one that a number falls to, and what is left of it."""
    rest = number
    for at, many in enumerate(counts):
        if rest < many:
            return at, rest
        rest -= many
    return None, rest


def numbered_among(left, number):
    """Return the order that keeps left ahead of which just so many are, None if there are too few."""
    table = begun_sets(left)
    counts = ends_counted(table)
    if number >= counts[0]:
        return None
    found, mask, rest = [], 0, number
    while table[mask]:
        at, rest = picked([counts[mask | 1 << item] for item in table[mask]], rest)
        found.append(table[mask][at])
        mask |= 1 << found[-1]
    return found


def how_many_keep(left):
    """Return how many orders keep left."""
    return ends_counted(begun_sets(left))[0]


def how_many_at(left, order, far):
    """Return how many orders that keep left have just so many pairs the other way about than an order."""
    if far > len(left) * len(left):
        return 0
    table = begun_sets(left)
    ahead = ahead_masks(order)
    # The counts for all distances stand side by side in one number, each in as many bits as all need.
    width = ends_counted(table)[0].bit_length()
    packed = {0: 1}
    for mask in table:
        for number in table[mask]:
            more = mask | 1 << number
            turned = ones(ahead[number] & ~mask)
            packed[more] = packed.get(more, 0) + (packed[mask] << (width * turned))
    whole = packed[(1 << len(left)) - 1]
    return (whole >> (width * far)) & ((1 << width) - 1)


def _gain(mask, told):
    """Return what tuples (worth, numbers) tell for a mask: for each of its numbers that is in a mask, the worth."""
    return sum([worth * ones(mask & numbers) for worth, numbers in told])


def best_kept(left, gains):
    """Return the greatest gain of an order that keeps left, how many orders have it, and the first of these.

    The gain is the sum, over all items, of what the tuples of gains for an item tell of those that stand ahead of it.
    """
    table = begun_sets(left)
    best, kept, many = {}, {}, {}
    for mask in reversed(list(table)):
        worths = [_gain(mask, gains[item]) + best[mask | 1 << item] for item in table[mask]]
        best[mask] = max(worths, default=0)
        kept[mask] = [item for item, worth in zip(table[mask], worths) if worth == best[mask]]
        many[mask] = sum([many[mask | 1 << item] for item in kept[mask]]) if worths else 1
    found, mask = [], 0
    while kept[mask]:
        found.append(kept[mask][0])
        mask |= 1 << found[-1]
    return best[0], many[0], found


def _turned_kept(left, order, sign):
    """Return the greatest number of pairs that an order that keeps left has the other way about than an order.

    How many orders have so many, and the first of these, stand behind it. With -1 as the sign, it is the least number
    instead.
    """
    kept, many, found = best_kept(left, [[(-sign, ahead)] for ahead in ahead_masks(order)])
    return len(order) * (len(order) - 1) // 2 + sign * kept, many, found


def farthest_kept(left, order):
    """Return the most pairs that an order that keeps left has the other way about, and the first with so many."""
    pairs, _, found = _turned_kept(left, order, 1)
    return pairs, found


def nearest_kept(left, order):
    """Return the fewest pairs that orders that keep left have the other way about, how many do, and the first."""
    return _turned_kept(left, order, -1)


def first_behind(left, begun):
    """Return the first order that keeps left and begins with the items of a list, as far as there is one.

    It ends early if numbers are left over each of which has to stand right of another one of them.
    """
    found = list(begun)
    mask = mask_of(found)
    while True:
        free = [item for item, ahead in enumerate(left) if not (mask >> item & 1 or ahead & ~mask)]
        if not free:
            return found
        found.append(free[0])
        mask |= 1 << free[0]


def is_kept(left, order):
    """Return whether an order keeps left."""
    return not any([mask & ~ahead for mask, ahead in zip(left, ahead_masks(order))])


def closed_masks(left):
    """Return, for each number, the mask of those that stand left of it, directly or over others."""
    found = list(left)
    for number in range(len(found)):
        over = found[number]
        found = [mask | over if mask >> number & 1 else mask for mask in found]
    return found


def sure_by(order, may_change):
    """Return, for each number, the masks of those that stand surely left and surely right of it: two lists.

    may_change tells of two numbers and a mask whether they may change places where just its numbers stand left of
    both; it may take no heed of the two themselves.
    """
    left, right = [0] * len(order), [0] * len(order)
    ahead = 0
    for at, number in enumerate(order):
        # From the nearest one on: whether a pair is sure hangs on the pairs that stand between.
        for other in reversed(order[:at]):
            if right[other] & left[number] or not may_change(other, number, ahead & ~right[other]):
                left[number] |= 1 << other
                right[other] |= 1 << number
        ahead |= 1 << number
    return left, right


def parts_of(mask):
    """Return the list of all masks of some numbers of a mask, or of none."""
    found = [0]
    for number in numbers_in(mask):
        found = found + [part | 1 << number for part in found]
    return found
