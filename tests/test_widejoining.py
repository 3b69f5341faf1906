"""[52] and [53] Orders led and joined by wide rules."""

import unittest

import plain
from gapswaps.errors import InvalidList, InvalidOrder, InvalidPlace, InvalidRule
from gapswaps.lets import Lets
from gapswaps.trees import Tree, chain
from gapswaps.widejoining import is_answer, least_wide_joining, rule_joined, rule_led, rule_places
from gapswaps.widerules import WideRule, even_above, is_even, rule_by_counts

BIG = 10 ** 29
THREE = chain(3)
ONES = rule_by_counts(THREE, Lets([1]))
BENT = WideRule(THREE, [(0, 1, []), (0, 2, [1]), (1, 2, [])])
EVEN = [(links, items) for links in plain.TREES
        for items in plain.even_rules(links)[::1 + len(plain.even_rules(links)) // 14]]


def wider_rules():
    """Even rules of trees of five numbers."""
    for links in plain.WIDER_TREES:
        lets = plain.tree_lets(links)
        for step in (2, 3, 5):
            rule = even_above(WideRule(Tree(links), lets[step::step]))
            if len(rule.lets()) < len(lets):
                yield links, rule.lets()
        yield links, rule_by_counts(Tree(links), Lets([1])).lets()


WIDER = list(wider_rules())


def rule_of(links, items):
    return WideRule(Tree(links), items)


class DeedsTest(unittest.TestCase):
    def test_places_and_orders_led(self):
        for links in plain.TREES:
            for items in plain.rules(links)[::1 + len(plain.rules(links)) // 40]:
                rule, told = rule_of(links, items), plain.told_rule(links, items)
                for order in plain.orders(len(links) + 1):
                    deeds = plain.rule_deeds(told, order)
                    self.assertEqual(rule_places(rule, order), [at for at, _ in deeds])
                    for at, behind in deeds:
                        self.assertEqual(rule_led(rule, order, [at]), behind)
                        self.assertEqual(rule_led(rule, order, [at, at]), order)
                    for at in range(len(links)):
                        if at not in [place for place, _ in deeds]:
                            self.assertRaises(InvalidPlace, rule_led, rule, order, [at])
                    self.assertEqual(rule_led(rule, order, []), order)

    def test_long_lists_of_deeds(self):
        for links, items in WIDER:
            rule, told = rule_of(links, items), plain.told_rule(links, items)
            for order in plain.orders(5)[::19]:
                found, places = order, []
                for step in range(25):
                    deeds = plain.rule_deeds(told, found)
                    if deeds:
                        at, found = deeds[(step * step + order[0]) % len(deeds)]
                        places.append(at)
                self.assertEqual(rule_led(rule, order, places), found)

    def test_rules_without_lets_and_with_all(self):
        for links in plain.TREES:
            none, whole = rule_of(links, []), rule_of(links, plain.tree_lets(links))
            order = list(range(len(links) + 1))
            self.assertEqual((rule_places(none, order), rule_places(whole, order)), ([], list(range(len(links)))))
            self.assertEqual(rule_led(none, order, []), order)

    def test_wrong_places(self):
        for wrong in (None, True, False, -1, 0, 2, 3, BIG, "1", [1], (1,), {}, ONES):
            for places in ([wrong], [1, wrong], [1, 1, wrong, None], [wrong, 1]):
                with self.assertRaises(InvalidPlace) as caught:
                    rule_led(ONES, [1, 0, 2], places)
                self.assertIs(caught.exception.value, wrong)
        for places in (None, True, 0, (), (1,), {}, "1", ONES):
            with self.assertRaises(InvalidList) as caught:
                rule_led(ONES, [1, 0, 2], places)
            self.assertIs(caught.exception.value, places)

    def test_nothing_is_changed(self):
        order, places = [1, 0, 2], [1]
        rule_led(ONES, order, places).append(9)
        rule_led(ONES, order, []).append(9)
        rule_places(ONES, order).append(9)
        rule_joined(ONES, order, order)[1].append(9)
        self.assertEqual((order, places, rule_places(ONES, order)), ([1, 0, 2], [1], [1]))
        self.assertEqual((rule_led(ONES, order, []), rule_joined(ONES, order, order)), ([1, 0, 2], ("joined", [])))


def check(test, links, items, goals):
    """Hold what is told of each two orders against all orders to which let deeds lead."""
    rule, told = rule_of(links, items), plain.told_rule(links, items)
    for classed in plain.rule_classes(told):
        for one in classed[::1 + len(classed) // 4]:
            far = plain.rule_class(told, one)
            for other in goals:
                found = rule_joined(rule, one, other)
                test.assertIs(is_answer(rule, one, other, found), True)
                test.assertEqual(found[0], "joined" if other in classed else "barred")
                if other in classed:
                    test.assertEqual(len(found), 2)
                    test.assertEqual(len(found[1]), far[tuple(other)])
                    test.assertEqual(len(found[1]), len(plain.unlike(one, other)))
                    test.assertEqual(rule_led(rule, one, found[1]), other)
                else:
                    test.assertEqual(len(found), 3)
                    see_bar(test, told, one, other, found)


def see_bar(test, told, one, other, found):
    _, places, at = found
    order, turned = one, []
    for place in places:
        pair = tuple(sorted(order[place:place + 2]))
        test.assertIn((place, plain.swapped(order, place)), plain.rule_deeds(told, order))
        turned.append(pair)
        order = plain.swapped(order, place)
    turned.append(tuple(sorted(order[at:at + 2])))
    test.assertEqual(len(turned), len(set(turned)))
    test.assertLessEqual(set(turned), set(plain.unlike(one, other)))
    test.assertNotIn(at, [place for place, _ in plain.rule_deeds(told, order)])


class JoinedTest(unittest.TestCase):
    def test_joined_or_barred_as_a_walk_says(self):
        for links, items in EVEN:
            check(self, links, items, plain.orders(len(links) + 1)[::1 if len(links) < 3 else 2])

    def test_five_numbers(self):
        for links, items in WIDER:
            check(self, links, items, plain.orders(5)[::13])

    def test_all_shortest_lists_are_let(self):
        for links, items in EVEN:
            told = plain.told_rule(links, items)
            rule = rule_of(links, items)
            orders = plain.orders(len(links) + 1)
            for one in orders[::3]:
                for other in orders[::2]:
                    ways = plain.exchange_ways(one, other)
                    led = [all(at in [place for place, _ in plain.rule_deeds(told, order)]
                               for order, at in zip(plain.orders_along(one, way), way)) for way in ways]
                    self.assertEqual(len(set(led)), 1)
                    self.assertEqual(rule_joined(rule, one, other)[0] == "joined", led[0])

    def test_edges(self):
        self.assertEqual(rule_joined(WideRule(chain(1), []), [0], [0]), ("joined", []))
        self.assertEqual(rule_joined(WideRule(chain(2), []), [0, 1], [1, 0]), ("barred", [], 0))
        self.assertEqual(rule_joined(WideRule(chain(2), [(0, 1, [])]), [0, 1], [1, 0]), ("joined", [0]))
        self.assertEqual(repr(rule_joined(ONES, [1, 0, 2], [1, 2, 0])), "('joined', [1])")
        self.assertEqual(repr(rule_joined(ONES, [0, 1, 2], [1, 0, 2])), "('barred', [], 0)")

    def test_rules_that_are_not_even(self):
        for asked in (rule_joined, least_wide_joining, lambda *told: is_answer(*told, None)):
            for rule in (BENT, None, True, 0, [], THREE, Lets([1]), "rule"):
                for one, other in (([0, 1, 2], [1, 0, 2]), (None, None), ([0], True)):
                    with self.assertRaises(InvalidRule) as caught:
                        asked(rule, one, other)
                    self.assertIs(caught.exception.value, rule)
        self.assertEqual(rule_places(BENT, [0, 1, 2]), [0, 1])
        self.assertEqual(rule_led(BENT, [0, 1, 2], [0, 1]), [1, 2, 0])

    def test_wrong_orders(self):
        wrong = [None, True, 0, [], [0], [0, 1], [0, 1, 2, 3], [0, 0, 1], [1, 2, 3], (0, 1, 2), [0, 1, True], "012", ONES,
                 [False, 1, 2]]
        for order in wrong:
            tried = [lambda: rule_places(ONES, order), lambda: rule_led(ONES, order, None),
                     lambda: rule_joined(ONES, order, None), lambda: rule_joined(ONES, [0, 1, 2], order),
                     lambda: is_answer(ONES, order, None, None), lambda: is_answer(ONES, [0, 1, 2], order, None),
                     lambda: least_wide_joining(ONES, order, None), lambda: least_wide_joining(ONES, [0, 1, 2], order)]
            for asked in tried:
                with self.assertRaises(InvalidOrder) as caught:
                    asked()
                self.assertIs(caught.exception.value, order)
        for rule in (None, True, 0, [], THREE, Lets([1])):
            for asked in (lambda: rule_places(rule, None), lambda: rule_led(rule, None, None)):
                with self.assertRaises(InvalidRule) as caught:
                    asked()
                self.assertIs(caught.exception.value, rule)


class AnswerTest(unittest.TestCase):
    def plain_answers(self, told, one, other):
        """All tuples that may be told, by all lists of let deeds that bring an order nearer."""
        found, layer = [], [(one, [])]
        while layer:
            more = []
            for order, places in layer:
                let = dict(plain.rule_deeds(told, order))
                if order == other:
                    found.append(("joined", places))
                for at in range(len(order) - 1):
                    if other.index(order[at]) > other.index(order[at + 1]):
                        if at in let:
                            more.append((let[at], places + [at]))
                        else:
                            found.append(("barred", places, at))
            layer = more
        return found

    def test_just_these_are_answers(self):
        tried = [[], [0], [1], [2], [0, 1], [1, 0], [1, 2], [0, 1, 0], [1, 0, 1], [0, 0], [0, 1, 2], [2, 1, 0, 1, 0]]
        for links, items in EVEN:
            rule, told = rule_of(links, items), plain.told_rule(links, items)
            orders = plain.orders(len(links) + 1)
            for one in orders[::5]:
                for other in orders[::4]:
                    answers = self.plain_answers(told, one, other)
                    values = [("joined", places) for places in tried]
                    values += [("barred", places, at) for places in tried for at in range(3)]
                    for value in values + answers:
                        self.assertIs(is_answer(rule, one, other, value), value in answers, (links, items, value))

    def test_bent_answers(self):
        one, other, barred = [1, 0, 2], [1, 2, 0], [0, 1, 2]
        self.assertIs(is_answer(ONES, one, other, ("joined", [1])), True)
        bent = [None, True, 0, "joined", [], ["joined", [1]], (), ("joined",), ("joined", (1,)), ("joined", [1], 0),
                ("joined", [True]), ("joined", ["1"]), ("joined", [1, 1, 1]), ("joined", []), ("Joined", [1]), (1, [1]),
                ("joined", 1), ("joined", None), ("barred", [1]), ("barred", [], 1), ("barred", [], 0), ("joined", [BIG]),
                ("joined", [-1]), ([], [1]), (None, None), ("barred", [1], 0), ("joined", [1], None), ONES, (ONES, [1])]
        for value in bent:
            self.assertIs(is_answer(ONES, one, other, value), False, value)
        self.assertIs(is_answer(ONES, barred, other, ("barred", [], 0)), True)
        bent = [("barred", [], False), ("barred", [], 1), ("barred", [], 2), ("barred", [], -1), ("barred", [], BIG),
                ("barred", [], None), ("barred", (), 0), ("barred", None, 0), ("barred", [0], 0), ("barred", [1], 0),
                ["barred", [], 0], ("barred", [], 0, 0), ("joined", [0, 1]), ("joined", [], 0), ("bar", [], 0), (0, [], 0)]
        for value in bent:
            self.assertIs(is_answer(ONES, barred, other, value), False, value)
        # Deeds that are let but lead astray.
        whole = WideRule(THREE, plain.tree_lets([(0, 1), (1, 2)]))
        self.assertIs(is_answer(whole, barred, [1, 0, 2], ("joined", [1, 1, 0])), False)
        self.assertIs(is_answer(whole, barred, [1, 0, 2], ("joined", [0])), True)
        self.assertIs(is_answer(whole, barred, barred, ("joined", [])), True)


class LeastJoiningTest(unittest.TestCase):
    def test_of_all_even_rules(self):
        for links in plain.TREES:
            even = plain.even_rules(links)
            masks = [{(low, high, tuple(lot)) for low, high, lot in items} for items in even]
            orders = plain.orders(len(links) + 1)
            for one in orders[::7]:
                for other in orders[::5]:
                    joins = [tuple(other) in plain.rule_class(plain.told_rule(links, items), one) for items in even]
                    for items in even[::1 + len(even) // 6]:
                        told = {(low, high, tuple(lot)) for low, high, lot in items}
                        able = [at for at, mask in enumerate(masks) if joins[at] and told <= mask]
                        least = min(able, key=lambda at: len(masks[at]))
                        self.assertTrue(all(masks[least] <= masks[at] for at in able))
                        found = least_wide_joining(rule_of(links, items), one, other)
                        self.assertEqual((found.tree().links(), found.lets()), (links, even[least]))

    def test_joined_orders_need_nothing_more(self):
        for links, items in WIDER:
            rule = rule_of(links, items)
            for one in plain.orders(5)[::23]:
                for other in plain.orders(5)[::17]:
                    found = least_wide_joining(rule, one, other)
                    self.assertIs(is_even(found), True)
                    self.assertEqual(rule_joined(found, one, other)[0], "joined")
                    self.assertEqual(found == rule, rule_joined(rule, one, other)[0] == "joined")

    def test_edges(self):
        self.assertEqual(least_wide_joining(WideRule(chain(1), []), [0], [0]), WideRule(chain(1), []))
        self.assertEqual(least_wide_joining(WideRule(THREE, []), [0, 1, 2], [0, 1, 2]).lets(), [])
        whole = least_wide_joining(WideRule(THREE, []), [0, 1, 2], [2, 1, 0])
        self.assertEqual(whole.lets(), plain.tree_lets([(0, 1), (1, 2)]))


if __name__ == "__main__":
    unittest.main()
