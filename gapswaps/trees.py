"""Trees of a few numbers, and what is between two numbers of a tree."""

from gapswaps.errors import InvalidList, InvalidNumber, InvalidTree
from gapswaps.masks import mask_of, numbers_in
from gapswaps.orders import is_count, is_whole

GREATEST_SIZE = 8


def _is_link(value, size):
    """Return whether a value is a tuple of two numbers below a size, the lesser one first."""
    if not isinstance(value, tuple) or len(value) != 2:
        return False
    return all([is_count(item) for item in value]) and value[0] < value[1] < size


def _ways_from(links, one):
    """Return, for each number that is linked with one, the list of the numbers from the one to it."""
    found = {one: [one]}
    fresh = [one]
    while fresh:
        met = []
        for number in fresh:
            for link in links:
                other = sum(link) - number
                if number in link and other not in found:
                    found[other] = found[number] + [other]
                    met.append(other)
        fresh = met
    return found


def _are_links(value):
    """Return whether a value is a list of the links of a tree, in order."""
    if not isinstance(value, list) or len(value) >= GREATEST_SIZE:
        return False
    size = len(value) + 1
    if not all([_is_link(item, size) for item in value]):
        return False
    return value == sorted(value) and len(_ways_from(value, 0)) == size


class Tree:
    """A tree of the numbers from 0 on, told by its links."""

    def __init__(self, links):
        if not _are_links(links):
            raise InvalidList(links)
        self._links = list(links)
        self._ways = [_ways_from(self._links, one) for one in range(len(links) + 1)]
        self._over = [[mask_of(ways[other][1:-1]) for other in sorted(list(ways))] for ways in self._ways]

    def size(self):
        """Return how many numbers the tree has."""
        return len(self._ways)

    def links(self):
        """Return the links, in order."""
        return list(self._links)

    def way(self, one, other):
        """Return the list of one number, of those between, as they are linked, and of the other number."""
        return list(self._ways[one][other])

    def over(self, one, other):
        """Return the mask of the numbers between two."""
        return self._over[one][other]

    def __eq__(self, other):
        return isinstance(other, Tree) and self._links == other._links


def need_tree(tree):
    """Refuse what is no tree."""
    if not isinstance(tree, Tree):
        raise InvalidTree(tree)


def need_tree_number(tree, number):
    """Refuse what is no number of a tree."""
    if not is_count(number) or number >= tree.size():
        raise InvalidNumber(number)


def chain(size):
    """Return the tree in which each number but the last is linked with the next one."""
    if not is_whole(size) or not 1 <= size <= GREATEST_SIZE:
        raise InvalidNumber(size)
    return Tree([(number, number + 1) for number in range(size - 1)])


def between(tree, one, other):
    """Return the list of the numbers over which one number of a tree is linked with another one, without both."""
    need_tree(tree)
    need_tree_number(tree, one)
    need_tree_number(tree, other)
    return numbers_in(tree.over(one, other))
