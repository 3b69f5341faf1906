"""[1] to [4] What holds for every function: names, the order of errors, new lists, unchanged arguments."""

import inspect
import unittest
from importlib import import_module

from gapswaps import errors
from gapswaps.hall import Hall
from gapswaps.lets import Lets
from gapswaps.trees import Tree, chain
from gapswaps.widerules import WideRule, rule_by_counts

BIG = 10 ** 29


def nested(depth):
    thing = []
    for _ in range(depth - 1):
        thing = [thing]
    return thing


THREE, STAR = chain(3), Tree([(0, 1), (0, 2), (0, 3)])
ONES = rule_by_counts(THREE, Lets([1]))
BENT = WideRule(THREE, [(0, 1, []), (0, 2, [1]), (1, 2, [])])
HALL = Hall(Lets([1]))
HALL.together([("enter", 0), ("enter", 1), ("enter", 0), ("enter", 1), ("enter", 2), ("promise", 3, 1)])

# Some of any value: each is wrong somewhere, and none is right where it is asked for nothing.
ANY = [None, True, False, "", "a", (), (1, 2), {}, {"a": [1]}, nested(30), [nested(3)], errors.InvalidOrder([0]),
       [None], [True], ["0"], [-1], -1, BIG]
LETS_TOO = ANY + [0, 1, [], [0], [1]]
NOT_GOOD = LETS_TOO + [Lets([1, 3]), Lets([1, 2]), Lets([2, 4]), Lets([1], 3)]
NOT_LEAN = NOT_GOOD + [Lets([], 1), Lets([], 5), Lets([2, 4, 5])]
SETS = [Lets([1]), Lets([], 1)]
NO_ROWS = ANY + SETS + [0, [0] * 201, (0,), [0, None], [[0]], [0, False]]
NO_ORDERS = NO_ROWS + [[1], [0, 0], [1, 2], [0, 2], list(range(201)), [0, True]]
NO_LOGS = NO_ROWS + [[1], [0, 2], [0, 0, 3]]
NO_COUNTS = [thing for thing in ANY if thing is not BIG] + SETS + [[], [0], (0,)]
NO_NUMBERS = NO_COUNTS + [BIG, 5, 6]
NO_LISTS = [thing for thing in ANY if not isinstance(thing, list)] + SETS + [0, (0,)]

WRONG = {
    "lets": ("InvalidLets", LETS_TOO), "good": ("InvalidLets", NOT_GOOD), "lean": ("InvalidLets", NOT_LEAN),
    "order": ("InvalidOrder", NO_ORDERS), "row": ("InvalidRow", NO_ROWS), "log": ("InvalidRow", NO_LOGS),
    "count": ("InvalidNumber", NO_COUNTS), "number": ("InvalidNumber", NO_NUMBERS),
    "place": ("InvalidPlace", NO_COUNTS + [4, 5, BIG, 0]), "any place": ("InvalidPlace", NO_COUNTS + [4, 5, BIG]),
    "to 16": ("InvalidNumber", NO_COUNTS + [0, 1, 17, BIG]), "to 12": ("InvalidNumber", NO_COUNTS + [0, 1, 13, 16, BIG]),
    "list": ("InvalidList", NO_LISTS), "alike order": ("Unlike", [[], [0], [0, 1, 2], list(range(200))]),
    "alike row": ("Unlike", [[], [0], [0, 1, 2, 3], [BIG] * 200]),
    "joined order": ("Unlike", [[], [0], [0, 1, 2, 3, 4], [4, 3, 0, 1, 2], list(range(200))]),
    "pair": ("InvalidPairs", ANY + SETS + [[0, 4], (4, 0), (0, 1), (3, 4), (0, 4, 0), (0,), (0, 5), (False, 4)]),
    "length": ("InvalidNumber", NO_COUNTS + [6, BIG]),
    "marks": ("InvalidList", NO_ORDERS + [[], [[0]], [[0], [0, 2, 1]], ([0], [0, 0, 1])]),
    "wishes": ("InvalidPairs", ANY + SETS + [
        0, [(0, 0)], [(0, 5)], [[0, 1]], [(0, 1, 2)], [(0, 1), None], [(True, 0)], ((0, 1),), [(0, -1)], [(0, 1)] * 201]),
    "lone log": ("InvalidRow", NO_LOGS + [[0, 0, 2], [0, 1, 0], [0, 0, 2, 1]]),
    "class": ("InvalidNumber", NO_NUMBERS), "lone": ("InvalidNumber", NO_NUMBERS + [4]),
    "modulus": ("InvalidNumber", NO_COUNTS + [0, 1001, BIG]),
    "rows": ("InvalidList", ANY + SETS + [0, ([0],), [0], [[0], [-1]], [[0], None], [None, [0]], [(0,)], [[0]] * 9, [[0] * 201], [[True]]]),
    "some rows": ("InvalidList", ANY + SETS + [[], 0, ([0],), [0], [[0], [-1]], [[0], None], [(0,)], [[0]] * 9]),
    "orders": ("InvalidList", ANY + SETS + [
        [], 0, ([0],), [0], [[1]], [[0], [0]], [[0], [0], [0, 1]], [[0]] * 101, [[0], None, [0]], [None, [0], [0]], [(0,)], [[0, True]]]),
    "numbers": ("InvalidList", [thing for thing in ANY] + SETS + [1, [0], [1001], [1] * 201, (1,)]),
    "start": ("InvalidNumber", [thing for thing in ANY if thing is not None] + SETS + [0, 1001, [1]]),
    "links": ("InvalidList", [thing for thing in ANY] + SETS + [
        0, ((0, 1),), [(1, 0)], [[0, 1]], [(0, 1), (0, 1)], [(1, 2), (0, 1)], [(0, 2)], [(False, 1)], THREE, [(0, 1, 2)],
        [(0, 1), (2, 3), (2, 3)], [(at, at + 1) for at in range(8)]]),
    "to 8": ("InvalidNumber", NO_COUNTS + [0, 9, BIG, THREE]),
    "tree": ("InvalidTree", ANY + SETS + [0, [], [(0, 1)], ONES, HALL]),
    "tree number": ("InvalidNumber", NO_COUNTS + [3, 4, BIG, THREE]),
    "items": ("InvalidList", ANY + SETS + [
        0, ((0, 1, []),), [(1, 0, [])], [[0, 1, []]], [(0, 2, (1,))], [(0, 1, [2])], [(0, 2, [1]), (0, 2, [])], THREE, ONES,
        [(0, 1, []), (0, 1, [])], [(0, 3, [])], [(0, 2, [True])], [(False, 1, [])], [(0, 1)]]),
    "rule": ("InvalidRule", ANY + SETS + [0, [], [(0, 1, [])], THREE, HALL]),
    "even": ("InvalidRule", ANY + SETS + [0, [], [(0, 1, [])], THREE, HALL, BENT]),
    "alike rule": ("Unlike", [rule_by_counts(STAR, Lets([1])), WideRule(chain(2), []), WideRule(Tree([(0, 1), (0, 2)]), [])]),
    "tree order": ("InvalidOrder", NO_ORDERS + [[], [0], [0, 1], [0, 1, 2, 3], ONES]),
    "lot": ("InvalidList", ANY + SETS + [0, (0, 1), [1, 0], [0, 0], [0, 3], [0, True], [[0]], THREE, ONES]),
    "told pairs": ("InvalidPairs", ANY + SETS + [
        0, [(0, 1)], [[[0], [0]]], [([0], [0, 1])], [([0], [0], [0])], (([0], [0]),), [([0], [0])] * 21, [([1], [1])],
        [(list(range(61)), list(range(61)))], [([0], [0]), None], [([0], (0,))]]),
    "from 1": ("InvalidNumber", NO_COUNTS + [0, 5, BIG]),
    "sheet rows": ("InvalidList", ANY + SETS + [
        0, ([0],), [0], [[0], [-1]], [(0,)], [[]] * 101, [[10 ** 30]], [[True]], [[0] * 201]]),
    "lines": ("InvalidLines", [thing for thing in ANY if not isinstance(thing, str)] + SETS + [0, ["lets"], ("lets",)]),
    "text": ("InvalidLines", ANY + SETS + [0, ["lets"], "lets 0", "row", "lets\nlets", "lets 01", "lets\t", "# lets"]),
    "hall": ("InvalidHall", ANY + SETS + [0, [], THREE, ONES, Hall]),
}

ONE, FAR, OTHER = Lets([1]), [3, 4, 0, 1, 2], [3, 0, 1, 2, 4]
TWO = [("good", ONE), ("order", FAR), ("order", OTHER), ("joined order", OTHER)]
ROWS = [("good", ONE), ("row", [2, 1, 0]), ("row", [1, 3, 0])]
PAIRS = [("good", ONE), ("order", FAR)]
ENDS = [("good", ONE), ("row", [1, 3]), ("row", [2])]
BARRED = [("good", ONE), ("row", [2, 0]), ("row", [3])]
NO_MIDDLE = [[1, 3, 0, 2, 4], [1, 3, 2, 4, 0], [1, 3, 4, 0, 2]]
WISHES = PAIRS + [("wishes", [(0, 4), (1, 4), (3, 0)])]
WIDE = [("even", ONES), ("tree order", [1, 0, 2]), ("tree order", [1, 2, 0])]

# For each function: its module, its arguments, and, in the order in which they are looked at, what they have to be and
# one that is right. The kinds "alike" and "joined" look at the argument ahead again; "value" may be anything.
CALLS = [
    ("orders", "is_order", "value", [("value", [1, 0])]),
    ("orders", "is_row", "value", [("value", [5, 0])]),
    ("orders", "is_log", "value", [("value", [0, 1])]),
    ("orders", "log_of", "order", [("order", FAR)]),
    ("orders", "order_of", "log", [("log", [0, 1, 0])]),
    ("orders", "places_of", "order", [("order", FAR)]),
    ("orders", "cut", "order length", [("order", FAR), ("length", 3)]),
    ("orders", "order_number", "order", [("order", FAR)]),
    ("orders", "order_numbered", "length number", [("count", 2), ("number", 1)]),
    ("deeds", "left_between", "order at", [("order", FAR), ("any place", 1)]),
    ("deeds", "order_done", "lets order at", [("lets", ONE), ("order", FAR), ("place", 1)]),
    ("deeds", "row_done", "lets row at", [("lets", ONE), ("row", [0, 1, 0, 1, 2]), ("place", 1)]),
    ("deeds", "open_places", "lets row", [("lets", ONE), ("row", [0, 1, 0, 1, 2])]),
    ("deeds", "led", "lets row places", [("lets", ONE), ("row", [0, 1, 0, 1, 2]), ("list", [1, 2])]),
    ("deeds", "followed", "lets row places", [("lets", ONE), ("row", [0, 1, 0, 1, 2]), ("list", [1, 2])]),
    ("lets", "Lets", "numbers start", [("numbers", [2, 1]), ("start", 5)]),
    ("lets", "good", "lets", [("lets", ONE)]),
    ("lets", "lean", "lets", [("lets", ONE)]),
    ("lets", "fault", "lets", [("lets", Lets([1, 3]))]),
    ("lets", "good_to", "lets length", [("lets", Lets([1, 3])), ("count", 4)]),
    ("lets", "holds_to", "lets", [("lets", Lets([1, 3]))]),
    ("lets", "fault_row", "lets", [("lets", Lets([1, 3]))]),
    ("lets", "is_fault_row", "lets value", [("lets", Lets([1, 3])), ("value", [[0], [1]])]),
    ("lets", "both", "one other", [("lets", ONE), ("lets", Lets([2], 4))]),
    ("lets", "within", "one other", [("lets", ONE), ("lets", Lets([2], 4))]),
    ("lets", "first_apart", "one other", [("lets", ONE), ("lets", Lets([2], 4))]),
    ("lets", "least_good", "lets", [("lets", Lets([2, 4]))]),
    ("lets", "how_many_good", "length", [("to 16", 4)]),
    ("lets", "good_sets", "length", [("to 12", 4)]),
    ("travel", "without", "lets row item", [("good", ONE), ("row", [2, 4, 6]), ("count", 3)]),
    ("travel", "passed", "lets row item", [("good", ONE), ("row", [2, 4, 6]), ("count", 3)]),
    ("travel", "divided", "lets row by", [("good", ONE), ("row", [2, 1, 0]), ("row", [1])]),
    ("travel", "joined", "lets one other", ROWS),
    ("travel", "class_first", "lets row", [("good", ONE), ("row", [2, 1, 0])]),
    ("travel", "way", "lets one other", ROWS + [("alike row", [1, 3, 0])]),
    ("travel", "is_way", "lets one other value", ROWS + [("alike row", [1, 3, 0]), ("value", [0])]),
    ("travel", "stop", "lets one other", [("good", ONE), ("row", [0, 0]), ("row", [0, 1]), ("alike row", [0, 1])]),
    ("travel", "is_stop", "lets one other value", ROWS + [("alike row", [1, 3, 0]), ("value", ([], 1, 1))]),
    ("travel", "joined_orders", "lets one other", TWO[:3] + [("alike order", OTHER)]),
    ("travel", "order_way", "lets one other", TWO[:3] + [("alike order", OTHER)]),
    ("ways", "unlike_pairs", "one other", [("order", FAR), ("order", OTHER), ("alike order", OTHER)]),
    ("ways", "distance", "lets one other", TWO),
    ("ways", "next_places", "lets one other", TWO),
    ("ways", "stands_between", "lets one other value", TWO + [("value", FAR)]),
    ("ways", "how_many_between", "lets one other", TWO),
    ("ways", "between_numbered", "lets one other number", TWO + [("number", 2)]),
    ("ways", "how_many_between_at", "lets one other far", TWO + [("count", 2)]),
    ("ways", "how_many_ways", "lets one other", TWO),
    ("ways", "way_numbered", "lets one other number", TWO + [("number", 0)]),
    ("ways", "way_number", "lets one other value", TWO + [("value", [1, 2, 3])]),
    ("ways", "turned_first", "lets one other first second", TWO + [("pair", (0, 4)), ("pair", (2, 4))]),
    ("ways", "farthest_two", "lets order", [("lean", ONE), ("order", FAR)]),
    ("pairs", "sure_pairs", "lets order", PAIRS),
    ("pairs", "loose_pairs", "lets order", PAIRS),
    ("pairs", "next_pairs", "lets order", PAIRS),
    ("pairs", "keeps", "lets order value", PAIRS + [("value", OTHER)]),
    ("pairs", "how_many_joined", "lets order", PAIRS),
    ("pairs", "joined_number", "lets order", PAIRS),
    ("pairs", "joined_numbered", "lets order number", PAIRS + [("number", 1)]),
    ("pairs", "next_joined", "lets order", [("good", ONE), ("order", OTHER)]),
    ("pairs", "places_for", "lets order item", PAIRS + [("number", 4)]),
    ("pairs", "can_touch", "lets order one other", PAIRS + [("number", 1), ("number", 4)]),
    ("pairs", "changes", "lets order one other", PAIRS + [("number", 1), ("number", 4)]),
    ("pairs", "class_counts", "lets order", PAIRS),
    ("pairs", "how_many_far", "lets order far", PAIRS + [("count", 2)]),
    ("pairs", "farthest", "lets order", PAIRS),
    ("lines", "pieces", "lets order", [("lean", ONE), ("order", FAR)]),
    ("lines", "marks", "lets order", [("lean", ONE), ("order", FAR)]),
    ("lines", "bounds", "lets order", [("lean", ONE), ("order", FAR)]),
    ("lines", "marked", "lets order value", [("lean", ONE), ("order", FAR), ("marks", [[0], [0, 0, 1]])]),
    ("wishes", "granted", "lets order wishes", WISHES),
    ("wishes", "wish_ring", "lets order wishes", PAIRS + [("wishes", [(0, 4), (4, 0)])]),
    ("wishes", "is_wish_ring", "lets order wishes value", WISHES + [("value", [0, 4])]),
    ("wishes", "needed_pairs", "lets order wishes", WISHES),
    ("wishes", "fewest_deeds", "lets order wishes", WISHES),
    ("wishes", "most_granted", "lets order wishes", WISHES),
    ("lasts", "class_last", "lets row", [("good", ONE), ("row", [0, 0, 2])]),
    ("lasts", "without_last", "lets row item", [("good", ONE), ("row", [0, 0, 2]), ("count", 0)]),
    ("lasts", "is_lot", "lets length value", [("lets", ONE), ("count", 5), ("value", [0, 2])]),
    ("lasts", "how_many_lots", "lets length size", [("good", ONE), ("count", 5), ("count", 2)]),
    ("lasts", "most_last", "lets length", [("good", ONE), ("count", 5)]),
    ("classcounts", "how_many_classes", "lets length", [("good", ONE), ("count", 5)]),
    ("classcounts", "classes_rest", "lets length modulus", [("lean", ONE), ("count", 7), ("modulus", 1000)]),
    ("classcounts", "how_many_boxes", "lets length size", [("lets", Lets([1, 3])), ("count", 3), ("count", 1)]),
    ("classcounts", "is_lone", "lets row", [("lets", Lets([1, 3])), ("row", [0, 0, 2])]),
    ("classcounts", "how_many_lone", "lets length", [("lets", Lets([1, 3])), ("count", 5)]),
    ("classcounts", "lone_number", "lets log", [("lets", ONE), ("lone log", [0, 1, 1])]),
    ("classcounts", "lone_numbered", "lets length number", [("lets", ONE), ("count", 3), ("lone", 2)]),
    ("firstlogs", "first_row", "lets row", [("good", ONE), ("row", [0, 0, 2])]),
    ("firstlogs", "is_first", "lets row", [("good", ONE), ("row", [0, 0, 2])]),
    ("firstlogs", "class_number", "lets log", [("good", ONE), ("log", [0, 0, 2])]),
    ("firstlogs", "class_numbered", "lets length number", [("good", ONE), ("count", 3), ("class", 2)]),
    ("firstlogs", "next_class", "lets log", [("good", ONE), ("log", [0, 0, 2])]),
    ("endings", "both_ahead", "lets one other", ENDS),
    ("endings", "least_ended", "lets one other", ENDS),
    ("endings", "greatest_ending", "lets one other", ENDS),
    ("goingson", "behind", "lets item other", [("good", ONE), ("count", 2), ("count", 3)]),
    ("goingson", "both_behind", "lets one other", ENDS),
    ("goingson", "least_going_on", "lets one other", ENDS),
    ("goingson", "bar", "lets one other", BARRED),
    ("goingson", "is_bar", "lets one other value", BARRED + [("value", (1, 0))]),
    ("beginnings", "greatest_beginning", "lets one other", ROWS),
    ("beginnings", "both_left", "lets one other", ROWS),
    ("beginnings", "beginnings", "lets row length", [("good", ONE), ("row", [2, 1, 0]), ("number", 1)]),
    ("beginnings", "how_many_beginnings", "lets row", [("good", ONE), ("row", [2, 1, 0])]),
    ("beginnings", "common_going_on", "lets rows", [("good", Lets([], 1)), ("rows", [[0], [1], [2]])]),
    ("beginnings", "common_beginning", "lets rows", [("good", ONE), ("some rows", [[2, 1], [1, 3], [1, 4]])]),
    ("middles", "majority", "orders", [("orders", [FAR, OTHER, OTHER])]),
    ("middles", "round_of", "orders", [("orders", [[0, 1, 2], [1, 2, 0], [2, 0, 1]])]),
    ("middles", "middle", "lets orders", [("lean", ONE), ("orders", [FAR, OTHER, OTHER])]),
    ("middles", "no_middle", "lets", [("good", Lets([], 1))]),
    ("middles", "is_no_middle", "lets value", [("good", Lets([], 1)), ("value", NO_MIDDLE)]),
    ("middles", "implied", "lets order", [("lean", ONE), ("order", FAR)]),
    ("nearest", "nearest", "lets order goal", [("lean", ONE), ("order", FAR), ("order", OTHER), ("alike order", OTHER)]),
    ("trees", "Tree", "links", [("links", [(0, 1), (1, 2)])]),
    ("trees", "chain", "size", [("to 8", 3)]),
    ("trees", "between", "tree one other", [("tree", THREE), ("tree number", 2), ("tree number", 0)]),
    ("widerules", "WideRule", "tree items", [("tree", THREE), ("items", [(0, 1, []), (0, 2, [1])])]),
    ("widerules", "rule_by_counts", "tree lets", [("tree", THREE), ("lets", Lets([1, 3]))]),
    ("widerules", "shared", "one other", [("rule", BENT), ("rule", ONES), ("alike rule", ONES)]),
    ("widerules", "is_even", "rule", [("rule", BENT)]),
    ("widerules", "first_fault", "rule", [("rule", BENT)]),
    ("widerules", "even_above", "rule", [("rule", BENT)]),
    ("widejoining", "rule_places", "rule order", [("rule", BENT), ("tree order", [1, 0, 2])]),
    ("widejoining", "rule_led", "rule order places", [("rule", BENT), ("tree order", [1, 0, 2]), ("list", [1, 0])]),
    ("widejoining", "rule_joined", "rule one other", WIDE),
    ("widejoining", "is_answer", "rule one other value", WIDE + [("value", ("joined", [1]))]),
    ("widejoining", "least_wide_joining", "rule one other", WIDE),
    ("wideways", "ends", "tree", [("tree", STAR)]),
    ("wideways", "on_way", "rule order one other", [
        ("rule", BENT), ("tree order", [1, 0, 2]), ("tree number", 2), ("tree number", 0)]),
    ("wideclasses", "kept_pairs", "rule order", WIDE[:2]),
    ("wideclasses", "how_many_wide_joined", "rule order", WIDE[:2]),
    ("wideclasses", "first_lots", "rule lot", [("even", ONES), ("lot", [1])]),
    ("wideclasses", "how_many_wide_classes", "rule lot", [("even", ONES), ("lot", [1])]),
    ("needs", "pair_counts", "one other", [("order", FAR), ("order", OTHER), ("alike order", OTHER)]),
    ("needs", "needed", "one other", [("order", FAR), ("order", OTHER), ("alike order", OTHER)]),
    ("needs", "least_joining", "pairs", [("told pairs", [(FAR, OTHER)])]),
    ("needs", "follows", "pairs one other", [
        ("told pairs", [(FAR, OTHER)]), ("order", FAR), ("order", OTHER), ("alike order", OTHER)]),
    ("needs", "fitting", "joined parted", [("told pairs", [(FAR, OTHER)]), ("told pairs", [([0, 1], [1, 0])])]),
    ("needs", "joins_more", "one other", [("good", Lets([], 1)), ("good", ONE)]),
    ("needs", "stretch", "order low high", [("order", FAR), ("number", 1), ("from 1", 3)]),
    ("needs", "core", "lets one other", [("good", ONE), ("order", [0, 1]), ("order", [1, 0]), ("alike order", OTHER)]),
    ("texts", "sheet_text", "lets rows", [("lets", ONE), ("sheet rows", [[0, 3], []])]),
    ("texts", "read_sheet", "text", [("text", "lets 1\nrow 0 3\nrow\n")]),
    ("texts", "wrong_line", "text", [("lines", "lets 1\nrow 1 -1\n")]),
    ("hall", "Hall", "lets", [("good", ONE)]),
    ("hall", "sure", "hall", [("hall", HALL)]),
    ("hall", "towards", "hall", [("hall", HALL)]),
    ("hall", "places", "hall person", [("hall", HALL), ("number", 1)]),
]
# Here the field holds the tuple of both people instead of an argument; test_hall looks at it.
PEOPLE = [
    ("hall", "why_not", "hall one other", [HALL, 1, 2]),
    ("hall", "is_why_not", "hall one other value", [HALL, 1, 2, [2, 3, 1]]),
    ("hall", "sure_since", "hall one other", [HALL, 0, 1]),
]
ERRORS = ("GapError InvalidNumber InvalidOrder InvalidRow InvalidLets InvalidList InvalidPlace InvalidPairs InvalidRule "
          "InvalidTree InvalidLines InvalidDeed InvalidFlag InvalidHall Unlike TooMany NothingToUndo NothingToRedo").split()


def called(module, name):
    return getattr(import_module(f"gapswaps.{module}"), name)


def is_second_look(kind):
    return kind.startswith(("alike", "joined"))


def right_arguments(kinds):
    return [right for kind, right in kinds if not is_second_look(kind)]


def shown(thing):
    """What a thing is, all kinds in it told, too."""
    if isinstance(thing, Lets):
        return ("Lets", thing.numbers(), thing.start())
    if isinstance(thing, Tree):
        return ("Tree", shown(thing.links()))
    if isinstance(thing, WideRule):
        return ("WideRule", shown(thing.tree()), shown(thing.lets()))
    if isinstance(thing, Hall):
        return ("Hall", shown(thing.order), shown(thing.people), shown(thing.promises), shown(thing.log()))
    if isinstance(thing, (list, tuple)):
        return (thing.__class__.__name__, [shown(item) for item in thing])
    return (thing.__class__.__name__, repr(thing))


def opened(thing):
    """The lists that an object hands out, all else as it is."""
    if isinstance(thing, Lets):
        return [thing.numbers()]
    if isinstance(thing, Tree):
        return [thing.links()]
    if isinstance(thing, WideRule):
        return [thing.tree().links(), thing.lets()]
    if isinstance(thing, Hall):
        return [thing.order, thing.people, thing.promises, thing.log()]
    return thing


def lists_in(thing):
    found = [thing] if isinstance(thing, list) else []
    if isinstance(thing, (list, tuple)):
        for item in thing:
            found += lists_in(item)
    return found


class NamesTest(unittest.TestCase):
    def test_names_and_arguments(self):
        for module, name, arguments, kinds in CALLS:
            thing = called(module, name)
            self.assertEqual(thing.__module__, f"gapswaps.{module}", name)
            self.assertEqual(list(inspect.signature(thing).parameters), arguments.split(), name)
            self.assertEqual(len(right_arguments(kinds)), len(arguments.split()), name)

    def test_errors_stand_in_their_module(self):
        for name in ERRORS:
            self.assertEqual(getattr(errors, name).__module__, "gapswaps.errors")

    def test_methods_stand_in_their_class(self):
        for name in ("__init__", "numbers", "start", "__contains__", "__eq__"):
            self.assertIn(name, vars(Lets))
        for name in ("__init__", "size", "links", "__eq__"):
            self.assertIn(name, vars(Tree))
        for name in ("__init__", "tree", "lets", "__eq__"):
            self.assertIn(name, vars(WideRule))
        self.assertEqual(list(inspect.signature(Lets).parameters.values())[1].default, None)

    def test_arguments_by_name(self):
        for module, name, arguments, kinds in CALLS:
            by_name = dict(zip(arguments.split(), right_arguments(kinds)))
            thing = called(module, name)
            self.assertEqual(shown(thing(**by_name)), shown(thing(*right_arguments(kinds))), name)


    def test_what_asks_for_two_people(self):
        for module, name, arguments, right in PEOPLE:
            thing = called(module, name)
            self.assertEqual((thing.__module__, list(inspect.signature(thing).parameters)),
                             (f"gapswaps.{module}", arguments.split()))
            before = [shown(item) for item in right]
            one, other = thing(*right), thing(**dict(zip(arguments.split(), right)))
            self.assertEqual((shown(one), [shown(item) for item in right]), (shown(other), before))
            self.assertFalse({id(item) for item in lists_in(one)} & {id(item) for item in lists_in(other)})


class WrongArgumentsTest(unittest.TestCase):
    def refused(self, thing, arguments, at, error, wrong):
        tried = arguments[:at] + [wrong] + arguments[at + 1:]
        before = [shown(item) for item in tried]
        with self.assertRaises(errors.GapError) as caught:
            thing(*tried)
        self.assertEqual(caught.exception.__class__.__name__, error, (thing.__name__, at, wrong))
        self.assertIs(caught.exception.value, wrong)
        self.assertEqual([shown(item) for item in tried], before)

    def test_each_wrong_argument_alone_and_with_wrong_ones_behind(self):
        for module, name, _, kinds in CALLS:
            thing, right = called(module, name), right_arguments(kinds)
            at = -1
            for kind, _ in kinds:
                at += 0 if is_second_look(kind) else 1
                if kind != "value":
                    error, wrong = WRONG[kind]
                    for value in wrong:
                        self.refused(thing, right, at, error, value)
                        for behind in (None, [None], 10 ** 29, (True,)):
                            self.refused(thing, right[:at + 1] + [behind] * (len(right) - at - 1), at, error, value)

    def test_any_value(self):
        for module, name, _, kinds in CALLS:
            if kinds[-1][0] == "value" and name != "way_number":
                for value in ANY + SETS + [0, 7, (0,), [0, None], [[0]], [0, 1, True]]:
                    right = right_arguments(kinds)[:-1] + [value]
                    self.assertIs(called(module, name)(*right), False, (name, value))


class ListsTest(unittest.TestCase):
    def test_arguments_stay_as_they_are(self):
        for module, name, _, kinds in CALLS:
            arguments = right_arguments(kinds)
            before = [shown(item) for item in arguments]
            called(module, name)(*arguments)
            self.assertEqual([shown(item) for item in arguments], before, name)

    def test_equal_calls_return_equal_new_things(self):
        for module, name, _, kinds in CALLS:
            arguments = right_arguments(kinds)
            one = called(module, name)(*arguments)
            other = called(module, name)(*arguments)
            self.assertEqual(shown(one), shown(other), name)
            one, other = opened(one), opened(other)
            ids = [id(item) for item in lists_in(one) + lists_in(other)]
            self.assertEqual(len(ids), len(set(ids)), name)
            self.assertFalse(set(ids) & set(id(item) for item in lists_in(arguments)), name)

    def test_what_was_handed_out_may_be_changed(self):
        for module, name, _, kinds in CALLS:
            arguments = right_arguments(kinds)
            before = shown(called(module, name)(*arguments))
            found = called(module, name)(*arguments)
            for item in lists_in(found) + lists_in(opened(found)):
                item.append("changed")
            if opened(found) is not found:
                self.assertEqual(shown(found), before, name)
            self.assertEqual(shown(called(module, name)(*arguments)), before, name)

    def test_kinds_of_what_is_returned(self):
        """No dict, set or float anywhere, and bool where something is told to be so or not."""
        for module, name, _, kinds in CALLS:
            told = str(shown(called(module, name)(*right_arguments(kinds))))
            self.assertFalse(any(f"('{kind}'" in told for kind in ("dict", "set", "float", "frozenset", "range")), name)
        for name in ("is_order", "is_row", "is_log", "good", "lean", "good_to", "is_fault_row", "within", "joined",
                     "is_way", "is_stop", "joined_orders", "stands_between", "turned_first", "keeps", "can_touch",
                     "is_wish_ring", "is_lot", "is_lone", "is_first", "is_bar", "is_no_middle", "is_even", "is_answer",
                     "follows"):
            module, kinds = [(module, kinds) for module, other, _, kinds in CALLS if other == name][0]
            self.assertIsInstance(called(module, name)(*right_arguments(kinds)), bool, name)


if __name__ == "__main__":
    unittest.main()
