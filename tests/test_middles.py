"""[46] and [47] Majorities, and what one pair implies of another one."""

import unittest
from itertools import combinations, combinations_with_replacement, permutations, product

import plain
from gapswaps.errors import InvalidLets, InvalidList, InvalidOrder, Unlike
from gapswaps.lets import Lets
from gapswaps.lines import marks
from gapswaps.middles import implied, is_no_middle, majority, middle, no_middle, round_of

BIG = 10 ** 29
# Good sets that are not lean, with the least length of three joined orders without a majority.
NOT_LEAN = [(([], 1), 5), (([], 2), 7), (([], 3), 9), (([], 4), 11), (([2, 4, 5], None), 7), (([1], 4), 8),
            (([3, 6, 7], None), 9), (([2], 4), 7), (([1, 4, 7], 10), 14), (([10, 20, 21], None), 23), (([57], 114), 117)]


def most_have(orders, one, other):
    return 2 * len([order for order in orders if order.index(one) < order.index(other)]) > len(orders)


def plain_majority(orders):
    length = len(orders[0])
    for order in plain.orders(length):
        if all(most_have(orders, order[at], other) for at in range(length) for other in order[at + 1:]):
            return order
    return None


def plain_round(orders):
    for one, other, last in permutations(range(len(orders[0])), 3):
        if most_have(orders, one, other) and most_have(orders, other, last) and most_have(orders, last, one):
            return (one, other, last)
    return None


def some_lists():
    for length in range(4):
        for many in (1, 3):
            for orders in product(plain.orders(length), repeat=many):
                yield list(orders)
    orders = plain.orders(4)
    for step in range(1, 200):
        yield [orders[(step * at * at + 5 * at + step) % 24] for at in range(3 + 2 * (step % 4))]
    orders = plain.orders(5)
    for step in range(1, 60):
        yield [orders[(step * at * at + 7 * at + step) % 120] for at in range(3 + 2 * (step % 3))]


class MajorityTest(unittest.TestCase):
    def test_majorities_or_rounds_never_both(self):
        rounds = 0
        for orders in some_lists():
            self.assertEqual(majority(orders), plain_majority(orders))
            self.assertEqual(round_of(orders), plain_round(orders))
            self.assertIs(majority(orders) is None, round_of(orders) is not None)
            rounds += round_of(orders) is not None
        self.assertGreater(rounds, 50)

    def test_edges(self):
        self.assertEqual((majority([[]]), round_of([[]])), ([], None))
        self.assertEqual((majority([[0]] * 99), round_of([[0]] * 99)), ([0], None))
        self.assertEqual(majority([[1, 0]] * 50 + [[0, 1]] * 49), [1, 0])
        self.assertEqual(majority([[1, 0]] * 49 + [[0, 1]] * 50), [0, 1])
        order = [2, 0, 1]
        self.assertIsNot(majority([order]), order)

    def test_wrong_lists(self):
        wrong = [None, True, 0, "", (), ([0],), {}, [], [0], [None], [[0], [0]], [[0]] * 101, [[0]] * 100, [[1]], [[0, 0]],
                 [[0], [0, 1], [0]], [[0, 1], [0, 1], [0]], [[0, True]], [(0, 1)], [[0, 1], [1, 0], None], Lets([1]),
                 [list(range(201))], [[[0]]], [["0"]], [0, [0], [0]], [None, [0], [0]], [True, [], []], [[0], [0], 0]]
        for orders in wrong:
            for asked in (majority, round_of, lambda told: middle(Lets([1]), told)):
                with self.assertRaises(InvalidList) as caught:
                    asked(orders)
                self.assertIs(caught.exception.value, orders)


class MiddleTest(unittest.TestCase):
    def test_middles_are_of_the_class_and_have_the_middle_marks(self):
        for told in plain.LEAN:
            lets = Lets(*told)
            for length in range(6):
                for classed in plain.order_classes(told, length):
                    chosen = list(combinations_with_replacement(classed, 3))
                    chosen = chosen[::1 + len(chosen) // 12] + [(classed * 5)[::-2][:5], classed[:1]]
                    for orders in [list(some) for some in chosen if len(some) % 2]:
                        found = middle(lets, orders)
                        self.assertIn(found, classed)
                        self.assertEqual(found, majority(orders))
                        told_marks = [sum(marks(lets, order), []) for order in orders]
                        middles = [sorted(some)[len(orders) // 2] for some in zip(*told_marks)]
                        self.assertEqual(sum(marks(lets, found), []), middles)

    def test_unlike_orders(self):
        one, far = Lets([1]), [3, 0, 4, 1, 2]
        near, other, third = [3, 4, 0, 1, 2], [4, 3, 0, 1, 2], [0, 1, 2, 3, 4]
        for orders, wrong in (([far, near, other], 2), ([far, other, third], 1), ([other, far, near], 1),
                              ([far, near, near, third, other], 3)):
            with self.assertRaises(Unlike) as caught:
                middle(one, orders)
            self.assertIs(caught.exception.value, orders[wrong])

    def test_sets_that_are_not_lean(self):
        for told in plain.NOT_GOOD + plain.GOOD[len(plain.LEAN):]:
            lets = Lets(*told)
            for asked in (lambda: middle(lets, None), lambda: implied(lets, None)):
                with self.assertRaises(InvalidLets) as caught:
                    asked()
                self.assertIs(caught.exception.value, lets)


class NoMiddleTest(unittest.TestCase):
    def joined(self, told, one, other):
        return tuple(other) in plain.order_class(told, one)

    def test_three_joined_orders_of_the_least_length(self):
        for told, length in NOT_LEAN:
            lets = Lets(*told)
            found = no_middle(lets)
            self.assertEqual([sorted(order) for order in found], [list(range(length))] * 3)
            self.assertTrue(self.joined(told, found[0], found[1]) and self.joined(told, found[0], found[2]))
            self.assertIsNone(majority(found))
            self.assertIs(is_no_middle(lets, found), True)
            self.assertIs(is_no_middle(lets, found[::-1]), True)

    def test_none_are_shorter(self):
        for told in plain.GOOD[len(plain.LEAN):]:
            least = len(no_middle(Lets(*told))[0])
            for length in range(3, 7):
                for classed in plain.order_classes(told, length):
                    # Any three without a majority turn three numbers in two of them each.
                    loose = [pair for pair in combinations(range(length), 2)
                             if not any(tuple(some) in plain.sure(classed) for some in (pair, pair[::-1]))]
                    rings = [three for three in combinations(range(length), 3)
                             if all(pair in loose for pair in combinations(three, 2))]
                    if length < least:
                        self.assertEqual(rings, [])
                    elif length == least:
                        some = [orders for orders in combinations(classed, 3) if round_of(list(orders))]
                        self.assertEqual(some == [], rings == [])
                        for orders in some[:20]:
                            self.assertIs(is_no_middle(Lets(*told), list(orders)), True)

    def test_all_lists_of_three(self):
        many, told = Lets([], 1), ([], 1)
        for classed in plain.order_classes(told, 5):
            some = list(combinations_with_replacement(classed, 3))
            for orders in some[::1 + len(some) // 60]:
                self.assertIs(is_no_middle(many, list(orders)), majority(list(orders)) is None)
        one, other, third = [1, 3, 0, 2, 4], [1, 3, 2, 4, 0], [1, 3, 4, 0, 2]
        self.assertIs(is_no_middle(many, [one, other, third]), True)
        # 1 and 3 never change places, so these are not joined.
        self.assertIs(is_no_middle(many, [one, other, [3, 1, 4, 0, 2]]), False)
        # These are joined and have no majority, but are longer than need be.
        longer = [order + [5] for order in (one, other, third)]
        self.assertIsNone(majority(longer))
        self.assertIs(is_no_middle(many, longer), False)

    def test_lean_sets_have_none(self):
        for told in plain.LEAN:
            lets = Lets(*told)
            self.assertIsNone(no_middle(lets))
            self.assertIs(is_no_middle(lets, None), False)
            self.assertIs(is_no_middle(lets, [[1, 3, 0, 2, 4], [1, 3, 2, 4, 0], [1, 3, 4, 0, 2]]), False)
            self.assertIs(is_no_middle(lets, []), False)

    def test_is_no_middle_of_any_value(self):
        many, found = Lets([], 1), [[1, 3, 0, 2, 4], [1, 3, 2, 4, 0], [1, 3, 4, 0, 2]]
        for value in (None, True, 0, "", (), tuple(found), {}, [], found[:2], found + found[:1], [None] * 3, [[]] * 3,
                      [[0]] * 3, found[:2] + [None], found[:2] + [tuple(found[2])], found[:2] + [[1, 3, 4, 0, True]],
                      found[:2] + [[1, 3, 4, 0]], many, [[0, 1, 2], [1, 2, 0], [2, 0, 1]], [found[0]] * 3, [BIG] * 3,
                      [[BIG] * 5] * 3, [found]):
            self.assertIs(is_no_middle(many, value), False, value)

    def test_sets_that_are_not_good(self):
        for told in plain.NOT_GOOD:
            lets = Lets(*told)
            for asked in (lambda: no_middle(lets), lambda: is_no_middle(lets, None)):
                with self.assertRaises(InvalidLets) as caught:
                    asked()
                self.assertIs(caught.exception.value, lets)


def classes_of_lean_sets():
    for told in plain.LEAN:
        for length in range(6):
            for classed in plain.order_classes(told, length):
                yield told, classed
    for told, order in ((([1], None), [5, 2, 0, 1, 4, 3]), (([1], None), [3, 0, 4, 1, 5, 2]), (([2], None), [1, 2, 0, 4, 3, 5]),
                        (([1, 4], None), [3, 0, 1, 2, 5, 4]), (([2, 3], None), [1, 2, 5, 0, 4, 3])):
        yield told, sorted(list(other) for other in plain.order_class(told, order))


class ImpliedTest(unittest.TestCase):
    def free(self, classed):
        kept = plain.sure(classed)
        return [pair for pair in permutations(classed[0], 2) if pair not in kept and pair[::-1] not in kept]

    def test_implied_pairs(self):
        many = 0
        for told, classed in classes_of_lean_sets():
            free = sorted(self.free(classed))
            expected = [
                first + second for first in free for second in free if set(first) != set(second)
                and all(order.index(second[0]) < order.index(second[1]) for order in classed
                        if order.index(first[0]) < order.index(first[1]))
            ]
            many += len(expected)
            for order in (classed[0], classed[-1]):
                self.assertEqual(implied(Lets(*told), order), expected)
        self.assertGreater(many, 100)

    def test_what_keeps_them_is_an_order_of_the_class(self):
        for told, classed in classes_of_lean_sets():
            free = [pair for pair in self.free(classed) if pair[0] < pair[1]]
            rules = implied(Lets(*told), classed[0])
            kept = 0
            for sides in product((False, True), repeat=len(free)):
                told_left = {pair if side else pair[::-1] for pair, side in zip(free, sides)}
                if all((a, b) not in told_left or (c, d) in told_left for a, b, c, d in rules):
                    kept += 1
            self.assertEqual(kept, len(classed))

    def test_edges_and_wrong_orders(self):
        one = Lets([1])
        for order in ([], [0], [1, 0], list(range(14)), list(range(200))):
            self.assertEqual(implied(one, order), [])
        for order in (None, True, (0, 1), [1], [0, 0], [0, True], list(range(201)), "01"):
            with self.assertRaises(InvalidOrder) as caught:
                implied(one, order)
            self.assertIs(caught.exception.value, order)


if __name__ == "__main__":
    unittest.main()
