"""[3] Each function within seconds at the limits that the points name."""

import time
import unittest
from math import comb, factorial

import plain
from gapswaps.beginnings import (
    beginnings, both_left, common_beginning, common_going_on, greatest_beginning, how_many_beginnings,
)
from gapswaps.classcounts import (
    classes_rest, how_many_boxes, how_many_classes, how_many_lone, is_lone, lone_number, lone_numbered,
)
from gapswaps.deeds import followed, led, left_between, open_places, order_done, row_done
from gapswaps.endings import both_ahead, greatest_ending, least_ended
from gapswaps.errors import InvalidNumber, InvalidPairs, TooMany
from gapswaps.firstlogs import class_number, class_numbered, first_row, is_first, next_class
from gapswaps.goingson import bar, behind, both_behind, is_bar, least_going_on
from gapswaps.hall import Hall, is_why_not, places, sure, sure_since, towards, why_not
from gapswaps.lasts import class_last, how_many_lots, is_lot, most_last, without_last
from gapswaps.lets import (
    Lets, both, fault, fault_row, first_apart, good, good_sets, good_to, holds_to, how_many_good, is_fault_row, lean,
    least_good, within,
)
from gapswaps.lines import bounds, marked, marks, pieces
from gapswaps.middles import implied, is_no_middle, majority, middle, no_middle, round_of
from gapswaps.nearest import nearest
from gapswaps.needs import core, fitting, follows, joins_more, least_joining, needed, pair_counts, stretch
from gapswaps.orders import cut, is_log, is_order, log_of, order_number, order_numbered, order_of, places_of
from gapswaps.pairs import (
    can_touch, changes, class_counts, farthest, how_many_far, how_many_joined, joined_number, joined_numbered, keeps,
    loose_pairs, next_joined, next_pairs, places_for, sure_pairs,
)
from gapswaps.texts import read_sheet, sheet_text, wrong_line
from gapswaps.travel import (
    class_first, divided, is_stop, is_way, joined, joined_orders, order_way, passed, stop, way, without,
)
from gapswaps.trees import Tree, between, chain
from gapswaps.ways import (
    between_numbered, distance, farthest_two, how_many_between, how_many_between_at, how_many_ways, next_places,
    stands_between, turned_first, unlike_pairs, way_number, way_numbered,
)
from gapswaps.wideclasses import first_lots, how_many_wide_classes, how_many_wide_joined, kept_pairs
from gapswaps.widejoining import is_answer, least_wide_joining, rule_joined, rule_led, rule_places
from gapswaps.widerules import WideRule, even_above, first_fault, is_even, rule_by_counts, shared
from gapswaps.wideways import ends, on_way
from gapswaps.wishes import fewest_deeds, granted, is_wish_ring, most_granted, needed_pairs, wish_ring

SECONDS = 10
BIG = 10 ** 29
ONE, MANY = Lets([1]), Lets([], 1)
WIDE = [Lets(list(range(500, 700))), Lets(list(range(801, 1001))), Lets(list(range(2, 402, 2)), 1000), Lets([], 1000),
        Lets(list(range(400, 500)) + list(range(900, 1000))), Lets([1] * 200, 1)]


def two_lines(size):
    """One number, an ascending line and a descending line that are put into one another in all ways by ONE."""
    return [size] + list(range(size)) + list(range(2 * size, size, -1))


def freed(size, length):
    """An order by MANY in which size numbers stand behind all others in any order: some 3 * 2 ** (size - 1) begun sets."""
    base = list(range(1, 2 * size - 1, 2)) + list(range(0, 2 * size, 2))
    return list(range(length - 1, len(base) - 1, -1)) + base


def blocks():
    """An order of 200 numbers of 66 blocks, in each of which two numbers may change places by ONE."""
    found = []
    for at in range(66):
        found = [3 * at + 1, 3 * at, 3 * at + 2] + found
    return [199, 198] + found


LINES, SHORT_LINES = two_lines(99), two_lines(29)
FREED = freed(13, 200)


class LimitsTest(unittest.TestCase):
    def setUp(self):
        self.began = time.monotonic()

    def tearDown(self):
        self.assertLess(time.monotonic() - self.began, SECONDS)

    def test_orders(self):
        order = order_numbered(200, factorial(200) - BIG)
        self.assertTrue(is_order(order) and is_log(log_of(order)))
        self.assertEqual(order_number(order), factorial(200) - BIG)
        self.assertEqual(order_of(log_of(order)), order)
        self.assertEqual(order[places_of(order)[77]], 77)
        self.assertEqual((cut(order, 200), len(cut(order, 199))), (order, 199))

    def test_deeds(self):
        row = [BIG, 0] * 100
        self.assertEqual(open_places(MANY, row), list(range(199)))
        self.assertEqual(row_done(MANY, row, 198)[198:], [0, BIG + 1])
        self.assertEqual(sorted(followed(MANY, row, [198, 196] * 5000)), list(range(200)))
        self.assertEqual(led(MANY, row, [198, 196] * 5000), row)
        self.assertEqual(len(led(MANY, [0] * 199 + [BIG], list(range(198, -1, -1)))), 200)
        self.assertEqual(left_between(list(range(1, 199)) + [199, 0], 198), 198)
        self.assertEqual(order_done(MANY, list(range(1, 199)) + [199, 0], 198)[198:], [0, 199])

    def test_wide_sets(self):
        for lets in WIDE:
            self.assertIn(good(lets), (True, False))
            self.assertIn(lean(lets), (True, False))
            self.assertIs(good_to(lets, 10000), good(lets))
            self.assertEqual(fault(lets) is None, holds_to(lets) is None)
            self.assertTrue(good(least_good(lets)) and within(lets, least_good(lets)))
            for other in WIDE:
                self.assertTrue(within(both(lets, other), lets))
                self.assertEqual(first_apart(lets, other) is None, lets == other)

    def test_fault_rows(self):
        lets = Lets([98, 99, 198])
        self.assertEqual([len(order) for order in fault_row(lets)], [200] * 6)
        self.assertIs(is_fault_row(lets, fault_row(lets)), True)

    def test_good_sets(self):
        self.assertGreater(how_many_good(16), len(good_sets(12)))

    def test_travellers(self):
        for lets in [ONE, MANY] + [lets for lets in WIDE if good(lets)]:
            for row in ([BIG - at for at in range(200)], [2 * at for at in range(200)], [at % 7 for at in range(200)]):
                self.assertEqual(len(class_first(lets, row)), len(set(class_first(lets, row))))
                self.assertLessEqual(passed(lets, row, BIG), 200)
                for item in class_first(lets, row):
                    self.assertIsNotNone(without(lets, row, item))

    def test_ways_of_rows(self):
        row = [2 * at for at in range(200)]
        other = led(MANY, row, [at for size in range(199, 0, -1) for at in range(size)])
        found = way(MANY, row, other)
        self.assertEqual(len(found), 19900)
        self.assertTrue(is_way(MANY, row, other, found))
        self.assertTrue(joined(MANY, row, other))
        self.assertEqual(divided(MANY, row, other), [])
        late = other[:199] + [other[199] + 1]
        self.assertTrue(is_stop(MANY, row, late, stop(MANY, row, late)))

    def test_ways_of_orders(self):
        low, high = farthest_two(ONE, LINES)
        self.assertTrue(joined_orders(ONE, low, high))
        self.assertEqual(len(order_way(ONE, low, high)), 99 * 99)
        self.assertEqual(len(unlike_pairs(low, high)), 99 * 99)
        self.assertEqual(distance(ONE, low, high), 99 * 99)
        self.assertEqual(next_places(ONE, low, high), [99])
        self.assertTrue(stands_between(ONE, low, high, LINES))
        self.assertIs(turned_first(ONE, low, high, (98, 198), (0, 198)), True)
        self.assertIs(turned_first(ONE, low, high, (0, 198), (98, 198)), False)

    def test_orders_between(self):
        low, high = farthest_two(ONE, LINES)
        many = comb(198, 99)
        self.assertEqual(how_many_between(ONE, low, high), many)
        last = between_numbered(ONE, low, high, many - 1)
        self.assertTrue(stands_between(ONE, low, high, last))
        self.assertRaises(InvalidNumber, between_numbered, ONE, low, high, many)
        far = farthest(MANY, FREED)[1]
        self.assertEqual(how_many_between(MANY, FREED, far), factorial(13))
        self.assertEqual(len(between_numbered(MANY, FREED, far, factorial(13) - 1)), 200)

    def test_distances_between(self):
        low, high = farthest_two(ONE, SHORT_LINES)
        spread = [how_many_between_at(ONE, low, high, far) for far in range(0, 842, 29)]
        self.assertEqual((spread, spread[0]), (spread[::-1], 1))
        order = freed(10, 24)
        far = farthest(MANY, order)[1]
        self.assertEqual(sum(how_many_between_at(MANY, order, far, at) for at in range(46)), factorial(10))

    def test_numbered_ways(self):
        """20,000 orders between, of 200 numbers."""
        order = blocks()
        other = list(order)
        for at in range(14):
            place = other.index(3 * at)
            other[place], other[place + 1] = other[place + 1], other[place]
        self.assertEqual(how_many_between(ONE, order, other), 2 ** 14)
        self.assertEqual(how_many_ways(ONE, order, other), factorial(14))
        last = way_numbered(ONE, order, other, factorial(14) - 1)
        self.assertEqual(last, sorted(last, reverse=True))
        self.assertEqual(way_number(ONE, order, other, last), factorial(14) - 1)

    def test_sure_pairs(self):
        for lets, order in ((ONE, LINES), (MANY, FREED), (MANY, order_numbered(200, factorial(200) // 3))):
            self.assertEqual(len(sure_pairs(lets, order)) + len(loose_pairs(lets, order)), 19900 - 199 * (len(order) < 200))
            self.assertGreaterEqual(len(next_pairs(lets, order)), 198)
            self.assertTrue(keeps(lets, order, order))
            self.assertEqual(len(class_counts(lets, order)), 2)
            self.assertLessEqual(places_for(lets, order, 0), (199, 199))
            self.assertEqual(changes(lets, order, 0, 1) is None, not can_touch(lets, order, 0, 1))

    def test_numbered_orders(self):
        for lets, order in ((ONE, LINES), (MANY, FREED)):
            many = how_many_joined(lets, order)
            first, last = joined_numbered(lets, order, 0), joined_numbered(lets, order, many - 1)
            self.assertEqual((joined_number(lets, first), joined_number(lets, last)), (0, many - 1))
            self.assertEqual(joined_number(lets, next_joined(lets, first)), 1)
            self.assertIsNone(next_joined(lets, last))
            far, found = farthest(lets, first)
            self.assertEqual(distance(lets, first, found), far)
        self.assertEqual(how_many_joined(ONE, LINES), comb(198, 99))

    def test_distances_in_a_class(self):
        many = how_many_joined(ONE, SHORT_LINES)
        self.assertEqual(many, comb(58, 29))
        spread = [how_many_far(ONE, SHORT_LINES, far) for far in range(0, 842, 29)]
        self.assertEqual((spread, spread[0]), (spread[::-1], 1))
        order = freed(10, 24)
        far = farthest(MANY, order)[0]
        self.assertEqual(sum(how_many_far(MANY, order, at) for at in range(far + 1)), how_many_joined(MANY, order))

    def test_lines(self):
        for order in (SHORT_LINES + [59], LINES):
            found = pieces(ONE, order)
            self.assertEqual(sum(len(first) + len(second) for first, second in found), len(order))
            self.assertEqual(marked(ONE, order, marks(ONE, order)), order)
            self.assertEqual([len(limits) for limits in bounds(ONE, order)], [len(first) for first, _ in found])
            highest = [[high for _, high in limits] for limits in bounds(ONE, order)]
            self.assertEqual(farthest_two(ONE, order)[1], marked(ONE, order, highest))

    def test_wishes(self):
        for lets, order in ((ONE, LINES), (MANY, FREED)):
            far, found = farthest(lets, order)
            wishes = [(other, one) if found.index(other) < found.index(one) else (one, other)
                      for one, other in unlike_pairs(order, found)[::1 + far // 200]]
            self.assertLessEqual(len(wishes), 200)
            first = granted(lets, order, wishes)
            least, nearest = fewest_deeds(lets, order, wishes)
            self.assertLessEqual(first, nearest)
            self.assertEqual(distance(lets, order, nearest), least)
            self.assertGreaterEqual(least, len(needed_pairs(lets, order, wishes)))
            self.assertEqual(most_granted(lets, order, wishes), (len(wishes), first))
            self.assertIsNone(wish_ring(lets, order, wishes))
            against = wishes[:199] + [wishes[0][::-1]]
            ring = wish_ring(lets, order, against)
            self.assertTrue(is_wish_ring(lets, order, against, ring))
            self.assertIsNone(granted(lets, order, against))
            self.assertEqual(most_granted(lets, order, [wishes[0]] * 200), (200, granted(lets, order, wishes[:1])))
            weighed = [wish for at, wish in enumerate(wishes[:19]) for _ in range(at + 1)]
            self.assertEqual(most_granted(lets, order, weighed)[0], len(weighed))

    def test_wishes_that_make_a_long_ring(self):
        order = list(range(199, -1, -1))
        wishes = [(at, (at + 1) % 200) for at in range(200)]
        self.assertTrue(is_wish_ring(ONE, order, wishes, wish_ring(ONE, order, wishes)))
        self.assertTrue(is_wish_ring(ONE, order, wishes, list(range(200))))

    def test_last_items(self):
        for lets in (ONE, MANY, Lets([], 100)):
            for row in ([BIG - at for at in range(200)], [2 * at for at in range(200)], [at % 7 for at in range(200)]):
                lasts = class_last(lets, row)
                for item in (lasts[0], lasts[-1]):
                    self.assertEqual(class_last(lets, without_last(lets, row, item) + [item]), lasts)
                first = first_row(lets, row)
                self.assertIs(is_first(lets, first), True)
                self.assertTrue(joined(lets, row, first))

    def test_lots(self):
        lean_sets = [ONE, Lets(list(range(1, 200, 3))), Lets(list(range(60, 120))), Lets(list(range(100, 199)))]
        for lets in lean_sets:
            pairs = sum(199 - number for number in lets.numbers() if number < 200)
            self.assertEqual([how_many_lots(lets, 200, size) for size in range(4)], [1, 200, pairs, 0])
            self.assertEqual(most_last(lets, 200), 2)
        for at in range(1, 60):
            self.assertEqual(how_many_lots(Lets([], at), 60, 2), comb(60 - at, 2))
        # Sets the lots of which leave free many unlike counts: each lot is found by going on from shorter ones.
        for lets in (Lets([5, 10, 11, 15, 16, 17, 20, 21, 22, 23], 30), Lets([8, 12, 16, 17, 20, 21, 24, 25, 26, 28, 29, 30], 36)):
            self.assertTrue(good(lets))
            lots, size = [[]], 0
            while lots:
                self.assertEqual(how_many_lots(lets, 60, size), len(lots))
                lots = [lot + [item] for lot in lots for item in range(max(lot, default=-1) + 1, 60)
                        if is_lot(lets, 60, lot + [item])]
                size += 1
            self.assertEqual(most_last(lets, 60), size - 1)

    def test_classes(self):
        self.assertEqual(how_many_classes(Lets([]), 200), factorial(200))
        for lets in (ONE, Lets(list(range(1, 200, 3))), Lets(list(range(100, 199)))):
            many = how_many_classes(lets, 200)
            self.assertEqual(many, sum((-1) ** size * how_many_boxes(lets, 200, size) for size in range(101)))
            for modulus in (1, 7, 1000):
                self.assertEqual(classes_rest(lets, 200, modulus), many % modulus)
                self.assertEqual(classes_rest(lets, 10 ** 30 - 1, modulus) < modulus, True)
        self.assertEqual(how_many_classes(MANY, 60), factorial(120) // factorial(60) // factorial(61))

    def test_lone_logs(self):
        for lets in WIDE[2:4] + [ONE, MANY, Lets([7, 9])]:
            many = how_many_lone(lets, 100)
            last = lone_numbered(lets, 100, many - 1)
            self.assertIs(is_lone(lets, last), True)
            self.assertEqual(lone_number(lets, last), many - 1)
            self.assertRaises(InvalidNumber, lone_numbered, lets, 100, many)

    def test_class_numbers(self):
        lean_sets = [ONE, Lets(list(range(1, 60, 3))), Lets(list(range(20, 40))), Lets(list(range(30, 60)))]
        for lets, length in [(lets, 60) for lets in lean_sets] + [(MANY, 14), (Lets([], 2), 14), (Lets([2, 4, 5]), 14)]:
            many = how_many_classes(lets, length)
            last = class_numbered(lets, length, many - 1)
            self.assertEqual(class_number(lets, last), many - 1)
            self.assertIsNone(next_class(lets, last))
            self.assertEqual(class_number(lets, next_class(lets, class_numbered(lets, length, many // 3))), many // 3 + 1)
            self.assertRaises(InvalidNumber, class_numbered, lets, length, many)

    def test_two_rows_of_100_items(self):
        some = [[2 * at for at in range(100)], [BIG - 3 * at for at in range(100)], [at * at * 7 % 200 for at in range(100)],
                [300 - 3 * at for at in range(100)]]
        met = 0
        for lets in (ONE, MANY, Lets(list(range(100, 199))), Lets([], 50)):
            for one in some:
                for other in some:
                    going = both_behind(lets, one, other)
                    if going is None:
                        self.assertTrue(is_bar(lets, one, other, bar(lets, one, other)))
                        self.assertIsNone(least_going_on(lets, one, other))
                    else:
                        met += 1
                        self.assertIsNone(bar(lets, one, other))
                        self.assertEqual(least_going_on(lets, one, other), one + going[0])
                        self.assertTrue(joined(lets, one + going[0], other + going[1]))
                    ahead = both_ahead(lets, one, other)
                    if ahead is not None:
                        met += 1
                        self.assertEqual(least_ended(lets, one, other), ahead[0] + one)
                        self.assertTrue(joined(lets, ahead[0] + one, ahead[1] + other))
        self.assertGreater(met, 40)

    def test_what_two_rows_of_100_items_share(self):
        more, less = [2 * at for at in range(100)], [at * at * 7 % 200 for at in range(100)]
        for lets in (ONE, MANY, Lets([], 50)):
            for one, other in ((more, less), (more, [1] + more[:99]), (less, less[:60] + more[:40]), (more, more)):
                found = greatest_beginning(lets, one, other)
                left = both_left(lets, one, other)
                self.assertTrue(joined(lets, one, found + left[0]) and joined(lets, other, found + left[1]))
                ending = greatest_ending(lets, one, other)
                self.assertIs(is_first(lets, ending), True)
                self.assertIn(ending[-1:], [[item] for item in class_last(lets, one)] + [[]])

    def test_all_beginnings(self):
        row = [2 * at for at in range(11)]
        self.assertEqual(len(beginnings(MANY, row, 5)), 462)
        self.assertEqual(how_many_beginnings(MANY, row), 2 ** 11)
        # Items that stand still ahead of four lines that go through one another freely, and behind them.
        levels = Lets([42 * level + at for level in range(1, 7) for at in range(7 * level)])
        lines = [0] * 4 + [46] * 4 + [92] * 4 + [138] * 3
        whole = [10 ** 6] * 12 + lines + [2 * 10 ** 6] * 13
        self.assertEqual(how_many_beginnings(levels, whole), 12 + 5 * 5 * 5 * 4 + 13)
        for lets, row in ((levels, whole), (MANY, log_of(freed(8, 40)))):
            counts = [len(beginnings(lets, row, length)) for length in range(41)]
            self.assertEqual((len(row), how_many_beginnings(lets, row)), (40, sum(counts)))
            self.assertGreater(max(counts), 50)
            for length in (14, 20, 27, 35):
                for found in beginnings(lets, row, length)[::9]:
                    self.assertIsNotNone(divided(lets, row, found))
        self.assertRaises(TooMany, beginnings, MANY, [2 * at for at in range(40)], 40)
        self.assertRaises(TooMany, how_many_beginnings, MANY, [2 * at for at in range(40)])

    def test_eight_rows(self):
        rows = [[2 * at + 100 * number for at in range(12)] for number in range(8)]
        found = common_going_on(MANY, rows)
        self.assertEqual(len(found), 96)
        for row in rows:
            self.assertIsNotNone(divided(MANY, found, row))
        self.assertEqual(common_beginning(MANY, [found] * 8), found)
        self.assertEqual(common_beginning(MANY, [rows[0]] * 8), rows[0])

    def test_majorities(self):
        orders = [order_numbered(200, factorial(200) * (at * at + 1) // 9999) for at in range(99)]
        self.assertIs(majority(orders) is None, round_of(orders) is not None)
        self.assertEqual((majority([LINES] * 99), round_of([LINES] * 99)), (LINES, None))
        self.assertEqual(middle(ONE, [LINES] * 99), LINES)
        many = how_many_joined(ONE, SHORT_LINES)
        joined_ones = [joined_numbered(ONE, SHORT_LINES, many * at // 99) for at in range(99)]
        found = middle(ONE, joined_ones)
        self.assertEqual(found, majority(joined_ones))
        self.assertEqual(sum(marks(ONE, found), []), [
            sorted(some)[49] for some in zip(*[sum(marks(ONE, order), []) for order in joined_ones])])

    def test_no_middles(self):
        for lets, length in ((Lets([], 28), 59), (Lets([28, 56, 57]), 59), (Lets([1], 56), 60), (MANY, 5)):
            found = no_middle(lets)
            self.assertEqual([len(order) for order in found], [length] * 3)
            self.assertIs(is_no_middle(lets, found), True)

    def test_implied_pairs(self):
        order = two_lines(6) + [13]
        self.assertEqual(len(implied(ONE, order)), 2 * sum(at * over - 1 for at in range(1, 7) for over in range(1, 7)))
        self.assertEqual(implied(ONE, list(range(13, -1, -1))), [])

    def test_nearest_orders(self):
        for lines in (SHORT_LINES, LINES):
            size = len(lines)
            low, high = farthest_two(ONE, lines)
            for goal in (low, high, lines):
                self.assertEqual(nearest(ONE, lines, goal), (0, 1, goal))
            for goal in (list(range(size)), list(range(size - 1, -1, -1)), order_numbered(size, factorial(size) * 2 // 7)):
                pairs, many, first = nearest(ONE, lines, goal)
                self.assertTrue(keeps(ONE, lines, first))
                self.assertEqual(len(unlike_pairs(first, goal)), pairs)
                self.assertGreater(many, 0)

    def test_trees_and_rules_of_eight_numbers(self):
        order, back = list(range(8)), list(range(7, -1, -1))
        trees = [(chain(8), 6), (Tree([(0, at) for at in range(1, 8)]), 1),
                 (Tree([(0, 4), (1, 4), (2, 5), (3, 5), (4, 6), (5, 6), (6, 7)]), 3)]
        for tree, most in trees:
            self.assertEqual(max(len(between(tree, one, other)) for one in order for other in order), most)
            whole = WideRule(tree, plain.tree_lets(tree.links()))
            self.assertEqual(how_many_wide_joined(whole, order), factorial(8))
            for rule in (whole, WideRule(tree, []), rule_by_counts(tree, ONE), rule_by_counts(tree, MANY),
                         even_above(WideRule(tree, whole.lets()[::5])), even_above(WideRule(tree, whole.lets()[1::2]))):
                self.assertTrue(is_even(rule) and first_fault(rule) is None and shared(rule, whole) == rule)
                found = rule_joined(rule, order, back)
                self.assertTrue(is_answer(rule, order, back, found))
                self.assertEqual(len(rule_led(rule, order, found[1])), 8)
                self.assertEqual(rule_joined(least_wide_joining(rule, order, back), order, back)[0], "joined")
                self.assertEqual(how_many_wide_joined(rule, order) == factorial(8), kept_pairs(rule, order) == [])
                self.assertGreaterEqual(how_many_wide_classes(rule, []), 1)
                self.assertGreaterEqual(len(first_lots(rule, [])), 8)
                self.assertEqual(len(rule_places(rule, back)) <= 7, True)
                self.assertEqual(len(on_way(rule, order, 0, 7)[1]), len(between(tree, 0, 7)) + 2)

    def test_needs(self):
        order, back = list(range(200)), list(range(199, -1, -1))
        self.assertEqual(len(pair_counts(order, back)), 19900)
        self.assertEqual(needed(order, back), list(range(199)))
        self.assertEqual(core(MANY, order, back), (0, 1))
        self.assertEqual(stretch(back, 1, 199), list(range(198, -1, -1)))
        low, high = farthest_two(ONE, LINES)
        self.assertEqual((needed(low, high), core(ONE, low, high)), ([1], None))
        count = list(range(1, 59))
        pair = (count + [0, 59], count + [59, 0])
        self.assertEqual(least_joining([pair] * 20), Lets([58]))
        self.assertIs(follows([pair] * 20, order, back), False)
        self.assertEqual(fitting([pair] * 20, [(order[:60], back[140:])] * 20), Lets([58]))
        found = joins_more(Lets([], 198), Lets([], 199))
        self.assertEqual([len(order) for order in found], [200, 200])
        self.assertIs(joined_orders(Lets([], 198), found[0], found[1]), True)
        self.assertIs(joined_orders(Lets([], 199), found[0], found[1]), False)

    def test_texts(self):
        rows = [[10 ** 30 - 1 - at for at in range(200)]] * 100
        for lets in WIDE[:4]:
            text = sheet_text(lets, rows)
            self.assertEqual(read_sheet(text), (lets, rows))
            self.assertIsNone(wrong_line(text))
            self.assertEqual(wrong_line(text + "#" * 10 ** 5 + "\n" + " " * 10 ** 5 + "x"), 103)

    def test_a_hall_of_forty_people(self):
        for lets in (ONE, MANY, Lets([], 5)):
            hall = Hall(lets)
            hall.together([("enter", at * 7 % (at + 1)) for at in range(40)])
            loose = [(one, other) for one in range(40) for other in range(40) if one != other and (other, one) not in sure(hall)]
            for one, other in loose[::1 + len(loose) // 60]:
                if why_not(hall, one, other) is None:
                    hall.promise(one, other)
                else:
                    self.assertRaises(InvalidPairs, hall.promise, one, other)
            self.assertTrue(is_why_not(hall, *hall.promises[0][::-1], why_not(hall, *hall.promises[0][::-1])))
            order, people = hall.order, hall.people
            goal = led(lets, log_of(order), towards(hall))
            self.assertTrue(joined_orders(lets, order, order_of(goal)))
            for person in range(0, 40, 3):
                self.assertLessEqual(*places(hall, person))
            first = sure(hall)[0]
            self.assertLessEqual(sure_since(hall, *first), 40)
            again = Hall(lets)
            self.assertEqual((again.together(hall.log()), again), (people, hall))
            for _ in hall.log():
                again.undo()
            self.assertEqual(again.people, [])


if __name__ == "__main__":
    unittest.main()
