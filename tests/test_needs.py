"""[55] to [59] What two orders need."""

import unittest
from itertools import combinations_with_replacement

import plain
from gapswaps.errors import InvalidLets, InvalidNumber, InvalidOrder, InvalidPairs, Unlike
from gapswaps.lets import Lets, both, good, within
from gapswaps.needs import core, fitting, follows, joins_more, least_joining, needed, pair_counts, stretch
from gapswaps.travel import joined_orders

BIG = 10 ** 29
NO_NUMBERS = [None, True, False, -1, 5, BIG, "0", [0], (0,), {}, Lets([1])]
NO_PAIRS = [None, True, 0, (), {}, "", [None], [True], [[]], [()], [([],)], [([], [], [])], [[[0], [0]]], [([0], [0, 1])],
            [([0], None)], [(None, [0])], [([1], [1])], [([0, 0], [0, 0])], [([0], (0,))], [([0, True], [0, 1])],
            ([([0], [0])],), (([0], [0]),), [([0], [0])] * 21, [([0], [0]), None], [None, ([0], [0])], Lets([1]),
            [(list(range(61)), list(range(61)))], [([0], [0]), ([0, 1], [0])]]
# Two orders that need just one count: of the last two ones so many numbers stand left that are between them.
BY_COUNT = {count: (list(range(1, count + 1)) + [0, count + 1], list(range(1, count + 1)) + [count + 1, 0])
            for count in range(8)}


def all_pairs():
    for length in range(5):
        for one in plain.orders(length):
            for other in plain.orders(length):
                yield one, other
    orders = plain.orders(5)
    for step in range(160):
        yield orders[step * 7 % 120], orders[step * step % 120]
    orders = plain.orders(6)
    for step in range(40):
        yield orders[step * 17 % 720], orders[(step * 17 + 3 * step * step + 1) % 60]


def counts_by_all_ways(one, other):
    """For each pair that shortest lists exchange, the counts of numbers between that stand left of both then."""
    found = {}
    for way in plain.exchange_ways(one, other):
        for order, at in zip(plain.orders_along(one, way), way):
            found.setdefault(tuple(sorted(order[at:at + 2])), set()).add(plain.count_left(order, at))
    return found


class CountsTest(unittest.TestCase):
    def test_counts_by_all_shortest_lists(self):
        for one, other in all_pairs():
            if len(plain.unlike(one, other)) < 12:
                found = counts_by_all_ways(one, other)
                told = pair_counts(one, other)
                self.assertEqual([item[:2] for item in told], plain.unlike(one, other))
                for x, y, low, high in told:
                    self.assertEqual(found[x, y], set(range(low, high + 1)))
                self.assertEqual(needed(one, other), sorted(set().union(*found.values())))
                self.assertEqual(needed(other, one), needed(one, other))

    def test_edges(self):
        for order in ([], [0], [0, 1], [2, 0, 1], list(range(200))):
            self.assertEqual((pair_counts(order, list(order)), needed(order, order)), ([], []))
        self.assertEqual((pair_counts([0, 1], [1, 0]), needed([0, 1], [1, 0])), ([(0, 1, 0, 0)], [0]))
        for count, (one, other) in BY_COUNT.items():
            self.assertEqual(pair_counts(one, other), [(0, count + 1, count, count)])
        self.assertEqual(repr(pair_counts([0, 1, 2], [2, 1, 0])), "[(0, 1, 0, 0), (0, 2, 0, 1), (1, 2, 0, 0)]")

    def test_joined_exactly_if_all_needed_counts_are_in_the_set(self):
        for told in plain.GOOD:
            lets = Lets(*told)
            for length in range(5):
                for classed in plain.order_classes(told, length):
                    for other in plain.orders(length):
                        self.assertIs(all(count in lets for count in needed(classed[0], other)), other in classed)
            for one in plain.orders(6)[::101]:
                classed = plain.order_class(told, one)
                for other in plain.orders(6)[::7] + [list(order) for order in classed][::3]:
                    self.assertIs(all(count in lets for count in needed(one, other)), tuple(other) in classed)

    def test_wrong_orders(self):
        for wrong in (None, True, 0, (0, 1), [1], [0, 0], [0, True], "01", list(range(201)), Lets([1])):
            for asked in (pair_counts, needed):
                for one, other in ((wrong, [0, 1]), (wrong, None), ([0, 1], wrong)):
                    with self.assertRaises(InvalidOrder) as caught:
                        asked(one, other)
                    self.assertIs(caught.exception.value, wrong)
        for asked in (pair_counts, needed):
            other = [0, 1, 2]
            with self.assertRaises(Unlike) as caught:
                asked([0, 1], other)
            self.assertIs(caught.exception.value, other)


class ToldPairsTest(unittest.TestCase):
    def joins(self, told, pairs):
        return all(tuple(other) in plain.order_class(told, one) for one, other in pairs)

    def some_lists(self):
        orders = plain.orders(4)
        yield []
        yield [([], [])]
        for step in range(60):
            yield [(orders[step * 5 % 24], orders[(step * step + at) % 24]) for at in range(step % 3)]
            yield [(plain.orders(5)[step], plain.orders(5)[(step + step % 4) % 120]), ([0], [0])]
        for one, other in combinations_with_replacement(range(1, 6), 2):
            yield [BY_COUNT[one], BY_COUNT[other], (orders[one], orders[one])]

    def test_least_joining(self):
        none = 0
        for pairs in self.some_lists():
            found = least_joining(pairs)
            able = [told for told in plain.GOOD if self.joins(told, pairs)]
            if found is None:
                none += 1
                self.assertEqual(able, [])
                self.assertFalse(self.joins(([], 1), pairs))
            else:
                self.assertIs(good(found), True)
                self.assertTrue(self.joins((found.numbers(), found.start()), pairs))
                for told in able:
                    self.assertIs(within(found, Lets(*told)), True)
        self.assertGreater(none, 20)

    def test_least_joining_of_all_small_sets(self):
        """All good sets of numbers up to 5, and of such with all from 6 on, that join the pairs."""
        sets = [(numbers, start) for numbers in plain.subsets(range(1, 6)) for start in (None, 6)]
        sets = [told for told in sets if not plain.faults(told, 20)]
        for pairs in list(self.some_lists())[::3]:
            able = [set(plain.members(told, 20)) for told in sets if self.joins(told, pairs)]
            found = least_joining(pairs)
            if able:
                self.assertEqual(set(plain.members((found.numbers(), found.start()), 5)), set.intersection(*able) & set(range(1, 6)))

    def test_what_follows(self):
        followed = 0
        for pairs in self.some_lists():
            able = [told for told in plain.GOOD if self.joins(told, pairs)]
            least = least_joining(pairs)
            for one, other in list(BY_COUNT.values()) + [([2, 1, 0, 3], [2, 1, 3, 0]), ([0, 1], [0, 1]), ([], [])]:
                found = follows(pairs, one, other)
                if least is None:
                    self.assertIs(found, True)
                else:
                    told = (least.numbers(), least.start())
                    self.assertIs(found, self.joins(told, [(one, other)]))
                    followed += found
                if found:
                    self.assertTrue(all(self.joins(told, [(one, other)]) for told in able))
        self.assertGreater(followed, 100)

    def test_what_fits(self):
        fits = 0
        lists = list(self.some_lists())
        for joined in lists[::4]:
            least = least_joining(joined)
            for parted in lists[1::9] + [[BY_COUNT[4]], [BY_COUNT[0], BY_COUNT[3]]]:
                found = fitting(joined, parted)
                told = None if least is None else (least.numbers(), least.start())
                if told is None or any(self.joins(told, [pair]) for pair in parted):
                    self.assertIsNone(found)
                    # Any other good set that joins the ones joins the others, too.
                    for other in plain.GOOD:
                        self.assertFalse(self.joins(other, joined) and not any(self.joins(other, [pair]) for pair in parted))
                else:
                    self.assertEqual(found, least)
                    fits += 1
        self.assertGreater(fits, 20)

    def test_edges(self):
        none = []
        self.assertEqual(least_joining(none), Lets([]))
        self.assertEqual(least_joining([BY_COUNT[count] for count in range(1, 8)] * 2), Lets([], 1))
        self.assertEqual(least_joining([BY_COUNT[5]] * 20), Lets([5]))
        self.assertIsNone(least_joining([BY_COUNT[0]]))
        self.assertEqual(least_joining([BY_COUNT[2], BY_COUNT[4]]), Lets([2, 4, 5]))
        self.assertEqual(least_joining([([], []), ([0], [0]), BY_COUNT[3]]), Lets([3]))
        self.assertEqual(fitting([], []), Lets([]))
        self.assertIsNone(fitting([], [([], [])]))
        self.assertIsNone(fitting([], [([0, 1], [0, 1])]))
        self.assertEqual(fitting([BY_COUNT[2]], [BY_COUNT[0], BY_COUNT[1], BY_COUNT[3]]), Lets([2]))
        self.assertIsNone(fitting([BY_COUNT[0]], []))
        self.assertIs(follows([], [0, 1], [1, 0]), False)
        self.assertIs(follows([], [1, 0], [1, 0]), True)
        self.assertIs(follows([BY_COUNT[0]], [0, 1], [1, 0]), True)
        self.assertIs(follows([BY_COUNT[1], BY_COUNT[2]], *BY_COUNT[7]), True)
        long_ones = list(range(60))
        self.assertEqual(least_joining([(long_ones, long_ones)] * 20), Lets([]))

    def test_wrong_pairs(self):
        for wrong in NO_PAIRS:
            tried = [lambda: least_joining(wrong), lambda: follows(wrong, [0], [0]), lambda: follows(wrong, None, [0, 1]),
                     lambda: fitting(wrong, []), lambda: fitting(wrong, None), lambda: fitting([], wrong),
                     lambda: fitting([BY_COUNT[0]], wrong)]
            for asked in tried:
                with self.assertRaises(InvalidPairs) as caught:
                    asked()
                self.assertIs(caught.exception.value, wrong)
        for wrong in (None, True, (0, 1), [1], [0, 0], list(range(201))):
            for pairs in ([], [BY_COUNT[0]]):
                for one, other in ((wrong, [0]), (wrong, None), ([0], wrong)):
                    with self.assertRaises(InvalidOrder) as caught:
                        follows(pairs, one, other)
                    self.assertIs(caught.exception.value, wrong)
                with self.assertRaises(Unlike) as caught:
                    follows(pairs, [0], wrong_one := [0, 1])
                self.assertIs(caught.exception.value, wrong_one)

    def test_nothing_is_changed(self):
        pairs = [([1, 0, 2], [1, 2, 0])]
        found = least_joining(pairs)
        found.numbers().append(7)
        fitting(pairs, [([0, 1], [1, 0])])
        self.assertEqual((pairs, found), ([([1, 0, 2], [1, 2, 0])], Lets([1])))


class JoinsMoreTest(unittest.TestCase):
    def test_orders_that_one_joins_and_the_other_does_not(self):
        for told in plain.GOOD:
            for against in plain.GOOD:
                one, other = Lets(*told), Lets(*against)
                found = joins_more(one, other)
                self.assertEqual(found is None, within(one, other))
                if found is not None:
                    self.assertIsInstance(found, tuple)
                    self.assertIn(tuple(found[1]), plain.order_class(told, found[0]))
                    self.assertNotIn(tuple(found[1]), plain.order_class(against, found[0]))
                    # Shorter ones would need a lesser count.
                    least = min(number for number in plain.members(told, 20) if not plain.has(against, number))
                    self.assertEqual(len(found[0]), least + 2)

    def test_none_are_shorter(self):
        for told, against in ((([], 2), ([], 3)), (([], 1), ([2, 4, 5], None)), (([2], 4), ([2, 4, 5], None)),
                              (([3], None), ([1], None)), (([2, 3], None), ([2], None)), (([1], 4), ([1, 4], None))):
            least = len(joins_more(Lets(*told), Lets(*against))[0])
            for length in range(min(least, 6)):
                for one in plain.orders(length):
                    self.assertLessEqual(set(plain.order_class(told, one)), set(plain.order_class(against, one)))

    def test_both_join_what_each_joins(self):
        for told in plain.GOOD[::2]:
            for against in plain.GOOD[1::2]:
                common = both(Lets(*told), Lets(*against))
                for one in plain.orders(5)[::13]:
                    joined = set(plain.order_class(told, one)) & set(plain.order_class(against, one))
                    self.assertEqual(set(plain.order_class((common.numbers(), common.start()), one)), joined)

    def test_edges(self):
        self.assertIsNone(joins_more(Lets([]), Lets([])))
        self.assertIsNone(joins_more(Lets([], 1), Lets([1], 2)))
        self.assertEqual(len(joins_more(Lets([], 198), Lets([]))[0]), 200)
        self.assertEqual(len(joins_more(Lets([], 1), Lets([], 2))[0]), 3)

    def test_wrong_sets(self):
        for wrong in [None, True, 1, [1], (1,), {}] + [Lets(*told) for told in plain.NOT_GOOD]:
            for one, other in ((wrong, Lets([1])), (wrong, None), (Lets([1]), wrong)):
                with self.assertRaises(InvalidLets) as caught:
                    joins_more(one, other)
                self.assertIs(caught.exception.value, wrong)


class StretchTest(unittest.TestCase):
    def test_stretches(self):
        for length in range(1, 6):
            for order in plain.orders(length)[::1 + length // 3]:
                for low in range(length):
                    for high in range(low, length):
                        kept = [item for item in order if item in range(low, high + 1)]
                        self.assertEqual(stretch(order, low, high), [item - low for item in kept])

    def test_stretches_of_joined_orders_are_joined(self):
        for told in plain.GOOD + plain.NOT_GOOD:
            for one in plain.orders(5)[::17]:
                for other in sorted(plain.order_class(told, one))[::3]:
                    for low, high in plain.pairs(5):
                        short = plain.order_class(told, stretch(one, low, high))
                        self.assertIn(tuple(stretch(list(other), low, high)), short)

    def test_edges(self):
        order = [2, 0, 1]
        self.assertEqual([stretch(order, at, at) for at in range(3)], [[0]] * 3)
        self.assertEqual(stretch(order, 0, 2), order)
        self.assertIsNot(stretch(order, 0, 2), order)

    def test_wrong_arguments(self):
        order = [3, 0, 4, 1, 2]
        for wrong in (None, True, 0, (0, 1), [1], [0, 0], [0, True], "01", list(range(201))):
            for low, high in ((0, 1), (None, None), (9, -1)):
                with self.assertRaises(InvalidOrder) as caught:
                    stretch(wrong, low, high)
                self.assertIs(caught.exception.value, wrong)
        for wrong in NO_NUMBERS:
            for low, high in ((wrong, 3), (wrong, None), (2, wrong)):
                with self.assertRaises(InvalidNumber) as caught:
                    stretch(order, low, high)
                self.assertIs(caught.exception.value, wrong)
        for low, high in ((1, 0), (4, 3), (2, 1)):
            with self.assertRaises(InvalidNumber) as caught:
                stretch(order, low, high)
            self.assertEqual(caught.exception.value, high)
        for low in range(2):
            with self.assertRaises(InvalidNumber) as caught:
                stretch([], low, 0)
            self.assertEqual(caught.exception.value, low)


class CoreTest(unittest.TestCase):
    def test_the_nearest_stretches_that_are_not_joined(self):
        for told in plain.GOOD:
            lets = Lets(*told)
            for length in range(6):
                orders = plain.orders(length)
                for step in range(min(len(orders), 12)):
                    one = orders[step * 7 % len(orders)]
                    joined = sorted(plain.order_class(told, one))
                    for other in orders[::1 + len(orders) // 11] + [list(joined[step % len(joined)])]:
                        apart = [(high - low, low) for low, high in plain.pairs(length)
                                 if tuple(stretch(other, low, high)) not in
                                 plain.order_class(told, stretch(one, low, high))]
                        found = core(lets, one, other)
                        self.assertEqual(found is None, tuple(other) in joined)
                        if found is None:
                            self.assertEqual(apart, [])
                        else:
                            self.assertEqual((found[1] - found[0], found[0]), min(apart))
                            self.assertIn(found, plain.unlike(one, other))
                            counts = {item[:2]: item[2:] for item in pair_counts(one, other)}[found]
                            self.assertFalse(all(count in lets for count in range(counts[0], counts[1] + 1)))

    def test_joined_exactly_if_without_the_greatest_and_without_the_least(self):
        for told in plain.GOOD:
            lets = Lets(*told)
            for length in range(2, 6):
                last = length - 1
                for one in plain.orders(length)[::5]:
                    for other in plain.orders(length)[::4]:
                        counts = [item for item in pair_counts(one, other) if item[:2] == (0, last)]
                        need = all(count in lets for _, _, low, high in counts for count in range(low, high + 1))
                        short = all(joined_orders(lets, stretch(one, low, high), stretch(other, low, high))
                                    for low, high in ((0, last - 1), (1, last)))
                        self.assertIs(joined_orders(lets, one, other), need and short)

    def test_edges(self):
        one = Lets([1])
        self.assertIsNone(core(one, [], []))
        self.assertIsNone(core(one, [0], [0]))
        self.assertIsNone(core(one, [2, 1, 0], [2, 1, 0]))
        self.assertEqual(core(one, [0, 1, 2, 3], [1, 0, 3, 2]), (0, 1))
        self.assertEqual(core(Lets([], 1), [0, 1, 3, 2], [0, 1, 2, 3]), (2, 3))
        self.assertEqual(repr(core(one, [0, 1], [1, 0])), "(0, 1)")

    def test_wrong_arguments(self):
        for wrong in [None, True, 1, [1], (1,), {}] + [Lets(*told) for told in plain.NOT_GOOD]:
            for one, other in (([0], [0]), (None, None), ([0], [0, 1])):
                with self.assertRaises(InvalidLets) as caught:
                    core(wrong, one, other)
                self.assertIs(caught.exception.value, wrong)
        for wrong in (None, True, 0, (0, 1), [1], [0, 0], [0, True], "01", list(range(201))):
            for one, other in ((wrong, [0, 1]), (wrong, None), ([0, 1], wrong)):
                with self.assertRaises(InvalidOrder) as caught:
                    core(Lets([1]), one, other)
                self.assertIs(caught.exception.value, wrong)
        other = [0, 1, 2]
        with self.assertRaises(Unlike) as caught:
            core(Lets([1]), [0, 1], other)
        self.assertIs(caught.exception.value, other)


if __name__ == "__main__":
    unittest.main()
