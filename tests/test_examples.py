"""The examples of the document, line by line."""

import unittest

from gapswaps.beginnings import (
    beginnings, both_left, common_beginning, common_going_on, greatest_beginning, how_many_beginnings,
)
from gapswaps.classcounts import (
    classes_rest, how_many_boxes, how_many_classes, how_many_lone, is_lone, lone_number, lone_numbered,
)
from gapswaps.deeds import followed, led, left_between, open_places, order_done, row_done
from gapswaps.endings import both_ahead, greatest_ending, least_ended
from gapswaps.firstlogs import class_number, class_numbered, first_row, is_first, next_class
from gapswaps.goingson import bar, behind, both_behind, is_bar, least_going_on
from gapswaps.hall import Hall, is_why_not, places, sure, sure_since, towards, why_not
from gapswaps.lasts import class_last, how_many_lots, is_lot, most_last, without_last
from gapswaps.lets import (
    Lets, both, fault, fault_row, first_apart, good, good_sets, good_to, holds_to, how_many_good, is_fault_row, lean,
    least_good, within,
)
from gapswaps.lines import bounds, marked, marks, pieces
from gapswaps.middles import implied, is_no_middle, majority, middle, no_middle, round_of
from gapswaps.nearest import nearest
from gapswaps.needs import core, fitting, follows, joins_more, least_joining, needed, pair_counts, stretch
from gapswaps.orders import (
    cut, is_log, is_order, is_row, log_of, order_number, order_numbered, order_of, places_of,
)
from gapswaps.pairs import (
    can_touch, changes, class_counts, farthest, how_many_far, how_many_joined, joined_number, joined_numbered, keeps,
    loose_pairs, next_joined, next_pairs, places_for, sure_pairs,
)
from gapswaps.texts import read_sheet, sheet_text, wrong_line
from gapswaps.travel import (
    class_first, divided, is_stop, is_way, joined, joined_orders, order_way, passed, stop, way, without,
)
from gapswaps.trees import Tree, between, chain
from gapswaps.ways import (
    between_numbered, distance, farthest_two, how_many_between, how_many_between_at, how_many_ways, next_places,
    stands_between, turned_first, unlike_pairs, way_number, way_numbered,
)
from gapswaps.wideclasses import first_lots, how_many_wide_classes, how_many_wide_joined, kept_pairs
from gapswaps.widejoining import is_answer, least_wide_joining, rule_joined, rule_led, rule_places
from gapswaps.widerules import WideRule, even_above, first_fault, is_even, rule_by_counts, shared
from gapswaps.wideways import ends, on_way
from gapswaps.wishes import fewest_deeds, granted, is_wish_ring, most_granted, needed_pairs, wish_ring


class ExamplesTest(unittest.TestCase):
    maxDiff = None

    def told(self, found, expected):
        """repr, too: so True is no 1 and a tuple no list."""
        self.assertEqual(repr(found), repr(expected))

    def test_orders_and_deeds(self):
        one = Lets([1])
        self.told(
            [log_of([3, 4, 0, 1, 2]), order_of([0, 1, 0, 1, 2]), places_of([3, 4, 0, 1, 2]), cut([3, 4, 0, 1, 2], 3)],
            [[0, 1, 0, 1, 2], [3, 4, 0, 1, 2], [2, 3, 4, 0, 1], [1, 2, 0]],
        )
        self.told(
            [is_order([1, 0]), is_order([1, 2]), is_row([5, 0]), is_log([0, 2]), is_log([]), order_number([1, 0, 2]),
             order_numbered(3, 5)],
            [True, False, True, False, True, 2, [2, 1, 0]],
        )
        self.told(
            [left_between([3, 4, 0, 1, 2], 1), order_done(one, [3, 4, 0, 1, 2], 1), row_done(one, [0, 1, 0, 1, 2], 1),
             open_places(one, [0, 1, 0, 1, 2])],
            [1, [3, 0, 4, 1, 2], [0, 0, 2, 1, 2], [1]],
        )
        self.told(
            [led(one, [0, 1, 0, 1, 2], [1, 2, 3]), order_of([0, 0, 1, 2, 4]), open_places(Lets([], 1), [0, 1, 2, 0]),
             row_done(one, [7, 9], 0), followed(one, [0, 1, 0, 1, 2], [1, 2])],
            [[0, 0, 1, 2, 4], [3, 0, 1, 2, 4], [2], [8, 7], [0, 2, 3, 1, 4]],
        )

    def test_lets(self):
        one, two, steps = Lets([1]), Lets([4, 2, 2]), Lets([2, 5], 4)
        self.told(
            [steps.numbers(), steps.start(), Lets([3, 2], 4) == Lets([], 2), 1 in one, 0 in one, 7 in steps,
             "a" in one, two.numbers(), two.start()],
            [[2], 4, True, True, False, True, False, [2, 4], None],
        )
        self.told(
            [good(one), lean(one), good(two), good(Lets([2, 4, 5])), lean(Lets([2, 4, 5])), good(Lets([], 3)),
             lean(Lets([3, 4, 5])), good(Lets([]))],
            [True, True, False, True, False, True, True, True],
        )
        self.told(
            [fault(two), holds_to(two), good_to(two, 6), good_to(two, 7), fault(Lets([1, 3])),
             holds_to(Lets([1, 3])), fault(one), holds_to(one)],
            [(2, 2), 6, True, False, (1, 1), 4, None, None],
        )
        self.told(
            [least_good(two) == Lets([2, 4, 5]), least_good(Lets([1, 3])) == Lets([], 1),
             least_good(Lets([2, 3, 4])) == Lets([], 2), both(two, steps).numbers(), within(one, two),
             first_apart(two, steps)],
            [True, True, True, [2, 4], False, 5],
        )
        row = [[1, 3, 2, 0, 4], [1, 3, 0, 2, 4], [1, 3, 0, 4, 2], [1, 3, 4, 0, 2], [1, 3, 4, 2, 0], [1, 3, 2, 4, 0]]
        self.told(
            [is_fault_row(Lets([1, 2]), row), is_fault_row(Lets([1, 3]), row), len(fault_row(two)[0]), fault_row(one),
             [how_many_good(length) for length in range(2, 8)], good_sets(5)],
            [True, False, 7, None, [1, 2, 4, 6, 11, 17], [[], [1], [1, 2, 3], [2], [2, 3], [3]]],
        )

    def test_travel(self):
        one, many = Lets([1]), Lets([], 1)
        self.told(
            [without(one, [1, 0, 1], 0), without(one, [2, 4, 6], 3), passed(one, [2, 4, 6], 3),
             without(one, [2, 7], 3), passed(one, [2, 7], 3), without(one, [], 0)],
            [[2, 1], [2, 6], 1, None, 1, None],
        )
        self.told(
            [divided(one, [2, 1, 0], [1]), joined(one, [2, 1, 0], [1, 3, 0]), joined(one, [1, 3, 0], [2, 0, 2]),
             joined(many, [0, 0, 3], [0, 2, 0]), class_first(one, [2, 1, 0])],
            [[3, 0], True, True, True, [1, 2]],
        )
        # Any shortest way may be returned; here there is but one.
        self.told(
            [way(one, [1, 3, 0], [2, 0, 2]), is_way(one, [2, 1, 0], [1, 3, 0], [0]),
             is_way(one, [2, 1], [2, 1], [0, 0]), way(one, [0, 0], [0, 1]), way(one, [], [])],
            [[0, 1], True, True, None, []],
        )
        self.told(
            [stop(one, [0, 0], [0, 1]), is_stop(one, [0, 0], [0, 1], ([], 1, 0)), stop(one, [2, 1], [1, 3]),
             stop(one, [5, 2], [3, 5])],
            [([], 1, 1), False, None, ([], 0, 0)],
        )
        self.told(
            [joined_orders(one, [3, 4, 0, 1, 2], [3, 0, 1, 2, 4]), order_way(one, [3, 4, 0, 1, 2], [3, 0, 1, 2, 4]),
             joined_orders(one, [0, 1], [1, 0])],
            [True, [1, 2, 3], False],
        )

    def test_ways(self):
        one, low, high = Lets([1]), [5, 2, 0, 1, 4, 3], [5, 2, 4, 3, 0, 1]
        self.told(
            [unlike_pairs(low, high), distance(one, low, high), next_places(one, low, high),
             next_places(one, [5, 2, 0, 4, 1, 3], high), next_places(one, low, low)],
            [[(0, 3), (0, 4), (1, 3), (1, 4)], 4, [3], [2, 4], []],
        )
        self.told(
            [stands_between(one, low, high, [5, 2, 0, 4, 3, 1]), how_many_between(one, low, high),
             between_numbered(one, low, high, 3), how_many_between_at(one, low, high, 2)],
            [True, 6, [5, 2, 4, 0, 1, 3], 2],
        )
        self.told(
            [how_many_ways(one, low, high), way_numbered(one, low, high, 1), way_number(one, low, high, [3, 2, 4, 3]),
             way_number(one, low, high, [2, 3, 4, 3]), turned_first(one, low, high, (1, 4), (0, 3))],
            [2, [3, 4, 2, 3], 0, None, True],
        )
        self.told(
            [farthest_two(one, [5, 2, 4, 0, 1, 3]) == (low, high), farthest_two(one, [0, 1]),
             how_many_ways(one, [6, 0, 1, 2, 3, 4, 5, 7], [6, 7, 0, 1, 2, 3, 4, 5])],
            [True, ([0, 1], [0, 1]), 1],
        )

    def test_pairs(self):
        one, order, low = Lets([1]), [3, 4, 0, 1, 2], [5, 2, 0, 1, 4, 3]
        self.told(
            [loose_pairs(one, order), sure_pairs(one, order), next_pairs(one, order),
             keeps(one, order, [3, 0, 1, 2, 4]), keeps(one, order, [0, 3, 1, 2, 4])],
            [[(0, 4), (1, 4), (2, 4)], [(0, 1), (0, 2), (1, 2), (3, 0), (3, 1), (3, 2), (3, 4)],
             [(0, 1), (1, 2), (3, 0), (3, 4)], True, False],
        )
        self.told(
            [how_many_joined(one, order), joined_number(one, order), joined_numbered(one, order, 1),
             next_joined(one, order), next_joined(one, low), how_many_joined(one, list(range(200)))],
            [4, 3, [3, 0, 1, 4, 2], None, [5, 2, 0, 4, 1, 3], 1],
        )
        self.told(
            [class_counts(one, [1, 0, 2]), class_counts(one, order), class_counts(Lets([2]), [1, 0, 2]),
             class_counts(one, [0])],
            [([1], [0]), ([1], [0]), ([], [0, 1]), ([], [])],
        )
        self.told(
            [places_for(one, order, 4), places_for(one, order, 3), can_touch(one, order, 1, 4),
             can_touch(one, order, 0, 2),
             [changes(one, order, 1, 4), changes(one, order, 0, 1), changes(one, order, 0, 2)],
             how_many_far(one, low, 2), farthest(one, low), farthest(Lets([], 1), [0, 1, 2])],
            [(1, 4), (0, 0), True, False, [True, False, None], 2, (4, [5, 2, 4, 3, 0, 1]), (0, [0, 1, 2])],
        )

    def test_lines(self):
        one, far = Lets([1]), [3, 0, 4, 1, 2]
        self.told(
            [pieces(one, far), marks(one, far), bounds(one, far), marked(one, far, [[0], [0, 0, 1]])],
            [[([3], []), ([0, 1, 2], [4])], [[0], [0, 1, 1]], [[(0, 0)], [(0, 1), (0, 1), (0, 1)]], [3, 0, 1, 4, 2]],
        )

    def test_wishes(self):
        one, low = Lets([1]), [5, 2, 0, 1, 4, 3]
        self.told(
            [granted(one, low, [(3, 0)]), granted(one, low, [(0, 3), (3, 0)]),
             is_wish_ring(one, low, [(0, 3), (3, 0)], [0, 3]), wish_ring(one, low, [(3, 0)]),
             is_wish_ring(one, low, [(3, 1)], [1, 4, 3])],
            [[5, 2, 4, 3, 0, 1], None, True, None, False],
        )
        self.told(
            [needed_pairs(one, low, [(3, 1)]), fewest_deeds(one, low, [(3, 1)]),
             most_granted(one, low, [(3, 0), (0, 3), (1, 4)]), needed_pairs(one, low, [])],
            [[(1, 3), (1, 4)], (2, [5, 2, 0, 4, 3, 1]), (2, [5, 2, 0, 1, 4, 3]), []],
        )

    def test_lasts(self):
        one, many = Lets([1]), Lets([], 1)
        self.told(
            [class_last(one, [0, 0, 2]), without_last(one, [0, 0, 2], 0), without_last(one, [0, 0, 2], 1),
             class_last(many, [0, 0, 0, 2, 4]), class_last(one, [])],
            [[0, 2], [0, 1], None, [0, 2, 4], []],
        )
        self.told(
            [how_many_lots(one, 5, 2), how_many_lots(many, 5, 2), how_many_lots(many, 5, 3), is_lot(many, 5, [0, 2, 4]),
             most_last(many, 5), most_last(one, 2)],
            [3, 6, 1, True, 3, 1],
        )

    def test_class_counts(self):
        one, many, odd = Lets([1]), Lets([], 1), Lets([1, 2])
        self.told(
            [[how_many_classes(one, length) for length in range(6)], how_many_classes(many, 6),
             how_many_classes(Lets([2, 3]), 7), how_many_boxes(one, 3, 0), how_many_boxes(one, 3, 1)],
            [[1, 1, 2, 5, 16, 65], 132, 2450, 6, 1],
        )
        self.told(
            [classes_rest(one, 7, 1000), classes_rest(one, 10 ** 20, 10), how_many_lone(one, 5), lone_numbered(one, 3, 2),
             lone_number(one, [0, 1, 1]), is_lone(odd, [0, 0, 2]), how_many_lone(odd, 2)],
            [957, 0, 34, [0, 1, 1], 2, False, 2],
        )

    def test_first_logs(self):
        one = Lets([1])
        self.told(
            [first_row(one, [0, 0, 2]), is_first(one, [0, 0, 2]), class_number(one, [0, 0, 2]), class_numbered(one, 3, 2),
             next_class(one, [0, 0, 2]), next_class(one, [0, 1, 2])],
            [[0, 1, 0], False, 2, [0, 1, 0], [0, 1, 1], None],
        )

    def test_endings(self):
        one, many = Lets([1]), Lets([], 1)
        self.told(
            [both_ahead(one, [0], [2]), both_ahead(one, [0], [1]), least_ended(one, [3, 0], [2]),
             greatest_ending(one, [0, 0, 2], [5, 0]), greatest_ending(many, [3, 1], [7, 4])],
            [([1], [0]), None, [1, 3, 0], [0], [4]],
        )

    def test_going_on(self):
        one, many = Lets([1]), Lets([], 1)
        self.told(
            [behind(one, 2, 3), behind(one, 3, 2), behind(one, 2, 2), behind(one, 2, 4), behind(many, 2, 9)],
            [[4], [2], [], None, [10]],
        )
        self.told(
            [both_behind(one, [2], [3]), both_behind(one, [2, 0], [3]), both_behind(one, [1, 0], [1, 0]),
             both_behind(one, [0, 0], [2]), least_going_on(one, [2, 0], [3])],
            [([4], [2]), None, ([], []), None, None],
        )
        self.told(
            [least_going_on(many, [2, 0], [3]), least_going_on(one, [2], [3]), bar(one, [2, 0], [3]),
             is_bar(one, [2, 0], [3], (0, 0)), bar(one, [2], [3])],
            [[2, 0, 5], [2, 4], (1, 0), False, None],
        )

    def test_beginnings(self):
        one, many = Lets([1]), Lets([], 1)
        self.told(
            [greatest_beginning(one, [2, 1, 0], [1, 3, 5]), both_left(one, [2, 1, 0], [1, 3, 5]),
             greatest_beginning(one, [0], [1]), beginnings(one, [2, 1, 0], 1)],
            [[1, 3], ([0], [5]), [], [[1], [2]]],
        )
        self.told(
            [how_many_beginnings(one, [2, 1, 0]), common_beginning(one, [[2, 1], [1, 3], [1, 4]]),
             common_going_on(many, [[0], [1], [2]]), common_going_on(one, [[0], [2]])],
            [6, [1], [0, 2, 4], None],
        )

    def test_middles(self):
        one, far = Lets([1]), [3, 0, 4, 1, 2]
        self.told(
            [middle(one, [[3, 4, 0, 1, 2], far, [3, 0, 1, 2, 4]]), majority([[0, 1, 2], [1, 2, 0], [2, 0, 1]]),
             round_of([[0, 1, 2], [1, 2, 0], [2, 0, 1]]), no_middle(one)],
            [[3, 0, 4, 1, 2], None, (0, 1, 2), None],
        )
        self.told(
            [is_no_middle(Lets([], 1), [[1, 3, 0, 2, 4], [1, 3, 2, 4, 0], [1, 3, 4, 0, 2]]), is_no_middle(one, []),
             len(no_middle(Lets([], 3))[0])],
            [True, False, 9],
        )
        self.told(
            implied(one, far),
            [(1, 4, 0, 4), (2, 4, 0, 4), (2, 4, 1, 4), (4, 0, 4, 1), (4, 0, 4, 2), (4, 1, 4, 2)],
        )

    def test_nearest(self):
        one, far = Lets([1]), [3, 0, 4, 1, 2]
        self.told(
            [nearest(one, far, [4, 3, 2, 1, 0]), nearest(one, far, far)],
            [(4, 1, [3, 4, 0, 1, 2]), (0, 1, [3, 0, 4, 1, 2])],
        )

    def test_wide_rules(self):
        three, star = chain(3), Tree([(0, 1), (0, 2), (0, 3)])
        ones, bent = rule_by_counts(three, Lets([1])), WideRule(three, [(0, 1, []), (0, 2, [1]), (1, 2, [])])
        self.told(
            [three.links(), between(three, 2, 0), between(star, 1, 3), ones.lets(),
             [item[:2] for item in rule_by_counts(star, Lets([1])).lets()]],
            [[(0, 1), (1, 2)], [1], [0], [(0, 2, [1])], [(1, 2), (1, 3), (2, 3)]],
        )
        self.told(
            [is_even(ones), is_even(bent), first_fault(bent), even_above(bent).lets(), shared(ones, bent) == ones],
            [True, False, (0, 1, 2, []), [(0, 1, []), (0, 2, []), (0, 2, [1]), (1, 2, [])], True],
        )
        # Any answer may be told; here there is but one.
        self.told(
            [rule_places(ones, [1, 0, 2]), rule_led(ones, [1, 0, 2], [1]), rule_joined(ones, [1, 0, 2], [1, 2, 0]),
             rule_joined(ones, [0, 1, 2], [1, 0, 2])],
            [[1], [1, 2, 0], ("joined", [1]), ("barred", [], 0)],
        )
        self.told(
            [ends(star), on_way(rule_by_counts(star, Lets([1])), [1, 0, 2, 3], 1, 3) == (ones, [0, 1, 2]),
             is_answer(ones, [0, 1, 2], [2, 1, 0], ("barred", [], 1)),
             least_wide_joining(ones, [0, 1, 2], [1, 0, 2]).lets()],
            [[1, 2, 3], True, True, [(0, 1, []), (0, 2, [1])]],
        )
        self.told(
            [kept_pairs(ones, [1, 0, 2]), how_many_wide_joined(ones, [1, 0, 2]), first_lots(ones, [1]),
             how_many_wide_classes(ones, []), how_many_wide_classes(ones, [1])],
            [[(1, 0), (1, 2)], 2, [[0], [0, 2], [2]], 5, 1],
        )

    def test_needs(self):
        self.told(
            [pair_counts([3, 4, 0, 1, 2], [3, 0, 1, 2, 4]), needed([3, 4, 0, 1, 2], [3, 0, 1, 2, 4]),
             needed([0, 1], [1, 0]), needed([1, 0, 2], [1, 0, 2])],
            [[(0, 4, 1, 1), (1, 4, 1, 1), (2, 4, 1, 1)], [1], [0], []],
        )
        pair = ([1, 0, 2], [1, 2, 0])
        self.told(
            [needed(pair[0], pair[1]), least_joining([pair]) == Lets([1]), least_joining([([0, 1], [1, 0])]),
             least_joining([]) == Lets([])],
            [[1], True, None, True],
        )
        far = ([1, 2, 0, 3], [1, 2, 3, 0])
        self.told(
            [least_joining([pair, far]) == Lets([], 1), follows([pair, far], [1, 2, 3, 0, 4], [1, 2, 3, 4, 0]),
             follows([pair], far[0], far[1]), fitting([pair], [far]) == Lets([1]),
             fitting([pair, far], [([1, 2, 3, 0, 4], [1, 2, 3, 4, 0])])],
            [True, True, False, True, None],
        )
        self.told([joins_more(Lets([], 2), Lets([], 1)), len(joins_more(Lets([], 1), Lets([1]))[0])], [None, 4])
        self.told(
            [stretch([3, 0, 4, 1, 2], 1, 3), core(Lets([1]), [0, 1], [1, 0]),
             core(Lets([1]), [1, 2, 0, 3], [1, 2, 3, 0]), core(Lets([2]), [1, 2, 0, 3], [1, 2, 3, 0])],
            [[2, 0, 1], (0, 1), (0, 3), None],
        )

    def test_texts(self):
        self.told(
            [sheet_text(Lets([2, 1]), [[0, 3], []]), sheet_text(Lets([2], 4), []),
             read_sheet("lets 5 5 2 from 4 # good\n\n row  1 0")[0] == Lets([2], 4), read_sheet("lets\n")[1]],
            ["lets 1 2\nrow 0 3\nrow\n", "lets 2 from 4\n", True, []],
        )
        self.told(
            [wrong_line("lets 1\nrow 1 -1\n"), wrong_line("# none\n"), wrong_line("lets from 0"),
             wrong_line("lets 1\nlets 1\n"), wrong_line("lets from 3")],
            [2, 2, 1, 2, None],
        )

    def test_hall(self):
        hall = Hall(Lets([1]))
        self.told(
            [hall.together([("enter", 0), ("enter", 1), ("enter", 0), ("enter", 1), ("enter", 2)]), hall.order,
             sure(hall), places(hall, 1)],
            [[0, 1, 2, 3, 4], [3, 4, 0, 1, 2], [(0, 1), (0, 2), (0, 3), (0, 4), (2, 3), (2, 4), (3, 4)], (1, 4)],
        )
        self.told(
            [hall.promise(3, 1), hall.promises, towards(hall)[:2], why_not(hall, 1, 2), why_not(hall, 4, 1),
             why_not(hall, 3, 2), places(hall, 1)],
            [None, [(3, 1)], [1, 2], [2, 3, 1], None, [2, 3], (3, 4)],
        )
        self.assertIs(is_why_not(hall, 1, 2, [2, 3, 1]), True)
        self.told(
            [hall.change(1), hall.people, hall.undo(), hall.people, hall.together([("release", 3, 1)], keep=False),
             hall.promises, sure_since(hall, 0, 1), sure_since(hall, 0, 4)],
            [None, [0, 2, 1, 3, 4], None, [0, 1, 2, 3, 4], [0, 1, 2, 3, 4], [(3, 1)], 2, 5],
        )


if __name__ == "__main__":
    unittest.main()
