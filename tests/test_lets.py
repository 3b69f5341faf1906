"""[4], [9] to [13] Sets of counts."""

import unittest
from itertools import chain, combinations, product

import plain
from gapswaps.errors import InvalidLets, InvalidList, InvalidNumber
from gapswaps.lets import (
    Lets, both, fault, fault_row, first_apart, good, good_sets, good_to, holds_to, how_many_good, is_fault_row, lean,
    least_good, within,
)

BIG = 10 ** 29
TOP = 40


def subsets(numbers):
    return [list(some) for some in chain.from_iterable(combinations(numbers, size) for size in range(len(numbers) + 1))]


SMALL = [(some, start) for some in subsets(range(1, 6)) for start in (None, 1, 2, 4, 6, 7)]
ALL_SETS = SMALL + [(some, None) for some in subsets(range(1, 8)) if 6 in some or 7 in some] + plain.GOOD


def same(lets, told, top=TOP):
    return [number for number in range(1, top + 1) if number in lets] == plain.members(told, top)


class LetsTest(unittest.TestCase):
    def test_what_is_in_it(self):
        for told in ALL_SETS:
            lets = Lets(*told)
            self.assertTrue(same(lets, told))
            for value in (0, -1, None, True, False, "1", [1], (1,), {}, {1: 1}, lets, InvalidLets(1)):
                self.assertIs(value in lets, False, value)
            self.assertIs(BIG in lets, told[1] is not None)
            self.assertIs(10 ** 40 in lets, told[1] is not None)

    def test_numbers_and_start(self):
        for told in ALL_SETS:
            lets = Lets(*told)
            inside = plain.members(told, TOP)
            if told[1] is None:
                self.assertIsNone(lets.start())
                self.assertEqual(lets.numbers(), inside)
            else:
                start = min(at for at in range(1, TOP) if all(plain.has(told, more) for more in range(at, TOP)))
                self.assertEqual(lets.start(), start)
                self.assertEqual(lets.numbers(), [number for number in inside if number < start])

    def test_the_order_and_the_number_of_times_do_not_matter(self):
        self.assertEqual(Lets([4, 2, 2, 4, 3]), Lets([2, 3, 4]))
        self.assertEqual(Lets([9, 2, 3, 7], 4), Lets([], 2))
        self.assertEqual(Lets(numbers=[1], start=3), Lets([1], 3))
        self.assertEqual(Lets([5] * 200).numbers(), [5])

    def test_equality(self):
        for one, other in product(SMALL, SMALL):
            alike = plain.members(one, 12) == plain.members(other, 12)
            self.assertIs(Lets(*one) == Lets(*other), alike)
            self.assertIs(Lets(*one) != Lets(*other), not alike)
        for value in (None, 1, [1], (1,), "1", {}, InvalidLets([1])):
            self.assertIs(Lets([1]) == value, False)
            self.assertIs(value == Lets([1]), False)

    def test_lists_in_and_out(self):
        numbers = [3, 1]
        lets = Lets(numbers, 7)
        numbers.append(5)
        lets.numbers().append(6)
        self.assertEqual(lets.numbers(), [1, 3])
        self.assertEqual(numbers, [3, 1, 5])
        self.assertEqual(lets, Lets([1, 3], 7))
        self.assertIsNot(lets.numbers(), lets.numbers())

    def test_bounds(self):
        self.assertEqual(Lets([1, 1000], 1000).start(), 1000)
        self.assertEqual(Lets(list(range(801, 1001))).numbers(), list(range(801, 1001)))
        self.assertEqual(Lets([]).numbers(), [])
        self.assertEqual(Lets([], 1).start(), 1)

    def test_refused(self):
        no_lists = [None, True, 1, "", (), (1,), {}, {1: 1}, Lets([1]), [0], [-1], [1001], [True], [False], [None],
                    ["1"], [[1]], [1, (2,)], [BIG], [1] * 201, [Lets([1])]]
        no_starts = [True, False, 0, -1, 1001, BIG, "1", "", [], [1], (1,), {}, Lets([], 1)]
        for numbers in no_lists:
            for start in [None, 1] + no_starts:
                with self.assertRaises(InvalidList) as caught:
                    Lets(numbers, start)
                self.assertIs(caught.exception.value, numbers)
        for start in no_starts:
            with self.assertRaises(InvalidNumber) as caught:
                Lets([1], start)
            self.assertIs(caught.exception.value, start)


class GoodTest(unittest.TestCase):
    def test_good_and_lean(self):
        for told in ALL_SETS:
            lets = Lets(*told)
            self.assertIs(good(lets), not plain.faults(told, 20))
            self.assertIs(lean(lets), plain.is_lean(told, 20))

    def test_what_the_plain_sets_are(self):
        for told in plain.GOOD:
            self.assertTrue(good(Lets(*told)), told)
            self.assertIs(lean(Lets(*told)), told in plain.LEAN, told)
        for told in plain.NOT_GOOD:
            self.assertFalse(good(Lets(*told)), told)
            self.assertFalse(lean(Lets(*told)), told)

    def test_fault_is_the_first(self):
        for told in ALL_SETS:
            found = plain.faults(told, 20)
            lets = Lets(*told)
            if found:
                self.assertEqual(fault(lets), found[0])
                self.assertIsInstance(fault(lets), tuple)
                self.assertEqual(holds_to(lets), sum(found[0]) + 2)
            else:
                self.assertIsNone(fault(lets))
                self.assertIsNone(holds_to(lets))

    def test_good_to(self):
        for told in ALL_SETS:
            sums = [x + y for x, y in plain.faults(told, 20)]
            for length in range(14):
                expected = not any(total <= length - 3 for total in sums)
                self.assertIs(good_to(Lets(*told), length), expected)

    def test_great_numbers(self):
        far = Lets([300, 450, 750])
        self.assertEqual((fault(far), holds_to(far)), ((300, 450), 752))
        self.assertEqual([good_to(far, length) for length in (0, 752, 753, 10000)], [True, True, False, False])
        self.assertTrue(good(Lets([300, 450, 750, 751])))
        self.assertEqual(fault(Lets([500], 1000)), None)
        self.assertEqual(fault(Lets([499, 500], 1000)), (499, 500))
        self.assertEqual(fault(Lets([1000, 999, 1])), (1, 999))
        self.assertTrue(lean(Lets([400, 1000])))
        self.assertFalse(lean(Lets([500, 1000])))
        self.assertFalse(lean(Lets([499, 999])))
        self.assertTrue(lean(Lets([500, 999])))
        self.assertIs(good_to(Lets([1]), 10000), True)

    def test_good_to_refused(self):
        for length in (None, True, False, -1, 10001, BIG, "3", [3], (), {}, Lets([1])):
            with self.assertRaises(InvalidNumber) as caught:
                good_to(Lets([1, 3]), length)
            self.assertIs(caught.exception.value, length)

    def test_good_to_a_length_is_that_all_shortest_lists_are_let(self):
        for length in range(2, 6):
            for some in subsets(range(1, length - 1)):
                told = (some, None)
                let = True
                for one in plain.orders(length):
                    deeds = [at for at, _ in plain.order_deeds(told, one)]
                    for other in plain.order_class(told, one):
                        # A shortest list begins with any two neighbours that stand the other way about.
                        steps = [at for at in range(length - 1) if other.index(one[at]) > other.index(one[at + 1])]
                        let = let and all(at in deeds for at in steps)
                self.assertIs(good_to(Lets(some), length), let, (some, length))


def is_plain_fault_row(told, value):
    steps = []
    for one, other in zip(value, value[1:] + value[:1]):
        at = [place for place in range(len(one) - 1) if plain.swapped(one, place) == other]
        if len(at) != 1:
            return False
        steps.append(plain.has(told, plain.count_left(one, at[0])))
    return steps == [True] * 5 + [False]


class FaultRowsTest(unittest.TestCase):
    def test_fault_rows(self):
        for told in ALL_SETS:
            lets = Lets(*told)
            found = fault_row(lets)
            if good(lets):
                self.assertIsNone(found)
            else:
                self.assertEqual(len(found), 6)
                self.assertEqual([len(order) for order in found], [holds_to(lets) + 1] * 6)
                self.assertTrue(all(sorted(order) == list(range(len(order))) for order in found))
                self.assertTrue(is_plain_fault_row(told, found), told)
                self.assertIs(is_fault_row(lets, found), True)

    def test_none_is_shorter(self):
        for told in ALL_SETS:
            for length in range(2, 6):
                if holds_to(Lets(*told)) is None or length <= holds_to(Lets(*told)):
                    self.assertFalse(self.is_any(told, length), told)

    def is_any(self, told, length):
        """Whether five let deeds lead from one end of an exchange that is not let to the other one."""
        if length == 5 and told not in plain.GOOD + plain.NOT_GOOD:
            return False
        for order in plain.orders(length):
            let = plain.order_deeds(told, order)
            ends = [(at, plain.swapped(order, at)) for at in range(length - 1)]
            barred = [end for at, end in ends if (at, end) not in let]
            layer = [order]
            for _ in range(5):
                layer = [behind for one in layer for _, behind in plain.order_deeds(told, one)]
                layer = [list(one) for one in sorted(set(tuple(one) for one in layer))]
            if any(end in layer for end in barred):
                return True
        return False

    def test_long_ones(self):
        for told in (([98, 99], 198), ([98, 99, 198], None), ([1, 196, 198], None), ([1, 196, 197], None)):
            lets = Lets(*told)
            found = fault_row(lets)
            self.assertTrue(is_fault_row(lets, found), told)
            self.assertTrue(is_plain_fault_row(told, found), told)
            self.assertEqual((holds_to(lets), [len(order) for order in found]), (199, [200] * 6))

    def test_is_fault_row(self):
        one_two, row = Lets([1, 2]), [
            [1, 3, 2, 0, 4], [1, 3, 0, 2, 4], [1, 3, 0, 4, 2], [1, 3, 4, 0, 2], [1, 3, 4, 2, 0], [1, 3, 2, 4, 0]]
        self.assertIs(is_fault_row(one_two, row), True)
        self.assertIs(is_fault_row(one_two, row[::-1]), True)
        # Longer than need be, and with numbers that stand still.
        self.assertIs(is_fault_row(one_two, [order + [5] for order in row]), True)
        for step in range(1, 6):
            self.assertIs(is_fault_row(one_two, row[step:] + row[:step]), False)
        for other in (Lets([1]), Lets([], 1), Lets([]), Lets([1, 3]), Lets([1], 3), Lets([2])):
            self.assertIs(is_fault_row(other, row), False)
        wrong = [row[:5], row + [row[0]], [], tuple(row), row[:5] + [None], row[:5] + [[0]], [[]] * 6, [[0, 1]] * 6,
                 row[:5] + [tuple(row[5])], row[:5] + [row[4]], row[:3] + [row[1]] + row[4:], None, True, 3, "row",
                 {0: row}, one_two, [[1, 3, 2, True, 4]] + row[1:], [one_two] * 6, [order + [6] for order in row],
                 [row[0] + [5]] + row[1:], row[:1] * 6]
        for value in wrong:
            self.assertIs(is_fault_row(one_two, value), False, value)

    def test_a_wrong_set(self):
        for value in (None, [1], 1, "lets", (), InvalidLets([1])):
            with self.assertRaises(InvalidLets) as caught:
                is_fault_row(value, None)
            self.assertIs(caught.exception.value, value)

    def test_all_walks_of_six(self):
        """Whatever six orders of length 4: held against the words themselves."""
        for told in (([1], 3), ([1], None), ([], 1), ([2], None)):
            lets = Lets(*told)
            for begin in plain.orders(4):
                walks = [[begin]]
                for _ in range(5):
                    walks = [walk + [plain.swapped(walk[-1], at)] for walk in walks for at in range(3)]
                for walk in walks[::5]:
                    self.assertIs(is_fault_row(lets, walk), is_plain_fault_row(told, walk))


class TwoSetsTest(unittest.TestCase):
    def test_both_within_first_apart(self):
        for one, other in product(SMALL[::2], SMALL[::3]):
            ones, others = plain.members(one, 20), plain.members(other, 20)
            shared = both(Lets(*one), Lets(*other))
            self.assertEqual([number for number in range(1, 21) if number in shared],
                             [number for number in ones if number in others])
            self.assertIs(shared.start() is None, one[1] is None or other[1] is None)
            self.assertIs(within(Lets(*one), Lets(*other)), all(number in others for number in ones))
            apart = [number for number in range(1, 21) if (number in ones) != (number in others)]
            self.assertEqual(first_apart(Lets(*one), Lets(*other)), apart[0] if apart else None)

    def test_great_numbers(self):
        self.assertEqual(both(Lets([], 1000), Lets([3], 900)), Lets([], 1000))
        self.assertEqual(both(Lets([1000, 4]), Lets([3], 900)), Lets([1000]))
        self.assertEqual(both(Lets([1000, 4]), Lets([999])), Lets([]))
        self.assertEqual(first_apart(Lets([1], 1000), Lets([1, 1000])), 1001)
        self.assertEqual(first_apart(Lets([1, 1000]), Lets([1], 1000)), 1001)
        self.assertEqual(first_apart(Lets([1000]), Lets([])), 1000)
        self.assertIs(within(Lets([1], 1000), Lets([1, 1000])), False)
        self.assertIs(within(Lets([1, 1000]), Lets([1], 1000)), True)

    def test_refused(self):
        for wrong in (None, [1], 1, True, "", (), {}, InvalidLets()):
            for function in (both, within, first_apart):
                for other in (Lets([1]), None, [2]):
                    with self.assertRaises(InvalidLets) as caught:
                        function(wrong, other)
                    self.assertIs(caught.exception.value, wrong)
                with self.assertRaises(InvalidLets) as caught:
                    function(Lets([1]), wrong)
                self.assertIs(caught.exception.value, wrong)
            for function in (good, lean, fault, holds_to, fault_row, least_good):
                with self.assertRaises(InvalidLets) as caught:
                    function(wrong)
                self.assertIs(caught.exception.value, wrong)
            for length in (3, None):
                with self.assertRaises(InvalidLets) as caught:
                    good_to(wrong, length)
                self.assertIs(caught.exception.value, wrong)


class LeastGoodTest(unittest.TestCase):
    def test_it_is_good_and_what_cannot_be_left_out(self):
        for told in ALL_SETS:
            found = least_good(Lets(*told))
            self.assertEqual([number for number in range(1, 21) if number in found], plain.closed(told, 20), told)
            self.assertTrue(good(found))
            self.assertTrue(within(Lets(*told), found))
            if good(Lets(*told)):
                self.assertEqual(found, Lets(*told))

    def test_it_is_within_all_other_good_sets(self):
        known = [told for told in ALL_SETS if not plain.faults(told, 20)]
        for told in SMALL:
            found = least_good(Lets(*told))
            for other in known:
                if within(Lets(*told), Lets(*other)):
                    self.assertTrue(within(found, Lets(*other)))

    def test_what_two_good_sets_share_is_good(self):
        known = [told for told in ALL_SETS if not plain.faults(told, 20)]
        for one, other in product(known, known):
            self.assertTrue(good(both(Lets(*one), Lets(*other))))

    def test_it_is_finite_below_twice_the_greatest_or_has_all_from_there(self):
        for told in ALL_SETS:
            if told[1] is None and told[0]:
                found = least_good(Lets(*told))
                most = max(told[0])
                if found.start() is None:
                    self.assertLess(max(found.numbers()), 2 * most)
                else:
                    self.assertLessEqual(found.start(), most)

    def test_it_may_go_beyond_what_a_caller_may_tell(self):
        found = least_good(Lets(list(range(802, 1001, 2)) + list(range(600, 620))))
        self.assertTrue(good(found))
        great = least_good(Lets([400, 500, 900, 1000]))
        self.assertEqual(great.numbers(), [400, 500, 900, 901, 1000, 1001])
        self.assertEqual((great.start(), least_good(great)), (None, great))
        self.assertEqual(both(great, Lets([], 900)).numbers(), [900, 901, 1000, 1001])
        self.assertEqual(first_apart(great, Lets([400, 500, 900, 901, 1000])), 1001)
        many = least_good(Lets(list(range(400, 500)) + list(range(900, 1000))))
        self.assertGreater(len(many.numbers()), 200)
        self.assertIsNone(fault(many))
        self.assertEqual(holds_to(many), None)


class GoodSetsTest(unittest.TestCase):
    def test_they_are_found_by_trying_all(self):
        for length in range(2, 10):
            found = []
            for some in subsets(range(1, length - 1)):
                if not any(x + y <= length - 3 for x, y in plain.faults((some, None), length)):
                    found.append(some)
            self.assertEqual(good_sets(length), sorted(found))
            self.assertEqual(how_many_good(length), len(found))

    def test_unlike_ones_join_unlike_orders(self):
        for length in range(2, 6):
            joined = [plain.order_classes((some, None), length) for some in good_sets(length)]
            for one, other in combinations(joined, 2):
                self.assertNotEqual(one, other)

    def test_bounds(self):
        self.assertEqual((good_sets(2), how_many_good(2)), ([[]], 1))
        self.assertEqual(len(good_sets(12)), how_many_good(12))
        self.assertGreater(how_many_good(16), how_many_good(15))
        for length in (None, True, False, 1, 0, -1, 17, BIG, "3", [3], (), {}, Lets([1])):
            for function in (how_many_good, good_sets):
                with self.assertRaises(InvalidNumber) as caught:
                    function(length)
                self.assertIs(caught.exception.value, length)
        for length in (13, 16):
            self.assertRaises(InvalidNumber, good_sets, length)
            self.assertGreater(how_many_good(length), 0)


if __name__ == "__main__":
    unittest.main()
