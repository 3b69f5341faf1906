"""[4], [8] Single deeds and lists of deeds."""

import unittest

import plain
from gapswaps.deeds import followed, led, left_between, open_places, order_done, row_done
from gapswaps.errors import InvalidList, InvalidPlace
from gapswaps.lets import Lets
from gapswaps.orders import log_of

SETS = plain.GOOD + plain.NOT_GOOD
NO_PLACES = [None, True, False, -1, 10 ** 29, "0", [0], (0,), {}, Lets([1])]
BIG = 10 ** 29


class OrderDeedsTest(unittest.TestCase):
    def test_left_between(self):
        for length in range(6):
            for order in plain.orders(length):
                for at in range(length - 1):
                    self.assertEqual(left_between(order, at), plain.count_left(order, at))

    def test_order_done(self):
        for told in SETS:
            lets = Lets(*told)
            for length in range(6):
                for order in plain.orders(length):
                    let = dict(plain.order_deeds(told, order))
                    for at in range(length - 1):
                        if at in let:
                            self.assertEqual(order_done(lets, order, at), let[at])
                            self.assertEqual(order_done(lets, let[at], at), order)
                        else:
                            self.assertRaises(InvalidPlace, order_done, lets, order, at)

    def test_a_let_deed_is_this_deed_of_the_log(self):
        for told in SETS:
            lets = Lets(*told)
            for order in plain.orders(5):
                let = dict(plain.order_deeds(told, order))
                self.assertEqual(open_places(lets, log_of(order)), sorted(let))
                for at in let:
                    self.assertEqual(row_done(lets, log_of(order), at), log_of(let[at]))

    def test_places_that_there_are_not(self):
        for at in NO_PLACES + [2, 3]:
            for refused in (lambda: left_between([1, 0, 2], at), lambda: order_done(Lets([1]), [1, 0, 2], at)):
                with self.assertRaises(InvalidPlace) as caught:
                    refused()
                self.assertIs(caught.exception.value, at)
        for order in ([], [0]):
            for at in (0, 1, -1):
                self.assertRaises(InvalidPlace, left_between, order, at)
                self.assertRaises(InvalidPlace, order_done, Lets([], 1), order, at)
        with self.assertRaises(InvalidPlace) as caught:
            order_done(Lets([1]), [1, 0, 2], 0)
        self.assertEqual(caught.exception.value, 0)


class RowDeedsTest(unittest.TestCase):
    def test_deeds_of_small_rows(self):
        for told in SETS:
            lets = Lets(*told)
            for row in plain.rows(1, 2) + plain.rows(2, 8) + plain.rows(3, 4):
                there = dict(plain.row_deeds(told, row))
                self.assertEqual(open_places(lets, row), sorted(there))
                for at in range(len(row) - 1):
                    if at in there:
                        self.assertEqual(row_done(lets, row, at), there[at])
                        # Deeds are undone by themselves.
                        self.assertEqual(row_done(lets, there[at], at), row)
                        self.assertEqual(led(lets, row, [at, at]), row)
                    else:
                        self.assertRaises(InvalidPlace, row_done, lets, row, at)

    def test_great_numbers(self):
        self.assertEqual(row_done(Lets([7]), [BIG, BIG + 8], 0), [BIG + 7, BIG])
        self.assertEqual(row_done(Lets([7]), [BIG + 7, BIG], 0), [BIG, BIG + 8])
        self.assertEqual(row_done(Lets([], 1000), [0, BIG], 0), [BIG - 1, 0])
        self.assertEqual(row_done(Lets([], 1000), [3, BIG, 0], 1), [3, 0, BIG + 1])
        self.assertEqual(open_places(Lets([1]), [0, BIG]), [])
        self.assertEqual(open_places(Lets([], 1), [0, BIG] * 100), list(range(199)))

    def test_no_places(self):
        for at in NO_PLACES + [1, 2]:
            with self.assertRaises(InvalidPlace) as caught:
                row_done(Lets([1]), [7, 9], at)
            self.assertIs(caught.exception.value, at)
        self.assertRaises(InvalidPlace, row_done, Lets([1]), [7, 8], 0)
        self.assertRaises(InvalidPlace, row_done, Lets([1]), [7, 7], 0)
        self.assertRaises(InvalidPlace, row_done, Lets([], 1), [7], 0)
        self.assertRaises(InvalidPlace, row_done, Lets([], 1), [], 0)
        self.assertEqual(open_places(Lets([], 1), []), [])
        self.assertEqual(open_places(Lets([], 1), [4]), [])


class ListsOfDeedsTest(unittest.TestCase):
    def told(self, told, begin):
        """Follow all lists of deeds from a row: each row is reached with one order of the items alone."""
        lets = Lets(*told)
        known = {tuple(begin): (list(range(len(begin))), [])}
        layer = [begin]
        while layer:
            more = []
            for row in layer:
                follow, places = known[tuple(row)]
                for at, behind in plain.row_deeds(told, row):
                    next_follow = plain.swapped(follow, at)
                    if tuple(behind) not in known:
                        known[tuple(behind)] = (next_follow, places + [at])
                        more.append(behind)
                    self.assertEqual(known[tuple(behind)][0], next_follow)
                    self.assertEqual(led(lets, begin, places + [at]), behind)
                    self.assertEqual(followed(lets, begin, places + [at]), next_follow)
            layer = more

    def test_led_and_followed(self):
        for told in SETS:
            for row in plain.rows(2, 5) + plain.rows(3, 3):
                self.told(told, row)
        for told in (([], 1), ([1, 2], None), ([1], 3), ([1], None)):
            for row in ([0, 0, 0, 0], [2, 2, 0, 2], [0, 3, 0, 3], [0, 1, 2, 0, 4], [5, 3, 1, 3], [4, 4, 0, 0, 2]):
                self.told(told, row)

    def test_empty_lists(self):
        for row in ([], [4], [1, 2, 3]):
            self.assertEqual(led(Lets([1]), row, []), row)
            self.assertEqual(followed(Lets([1]), row, []), list(range(len(row))))

    def test_the_first_place_without_a_deed_is_named(self):
        one = Lets([1])
        for function in (led, followed):
            for at in NO_PLACES + [4, 5]:
                for places in ([at], [1, at], [1, 2, at, 3], [1, at, None, "x"]):
                    with self.assertRaises(InvalidPlace) as caught:
                        function(one, [0, 1, 0, 1, 2], places)
                    self.assertIs(caught.exception.value, at)
            # The place 2 has a deed behind that at 1 only, and 0 has none.
            with self.assertRaises(InvalidPlace) as caught:
                function(one, [0, 1, 0, 1, 2], [1, 2, 0, "x"])
            self.assertEqual(caught.exception.value, 0)
            with self.assertRaises(InvalidPlace) as caught:
                function(one, [0, 1, 0, 1, 2], [2, 1])
            self.assertEqual(caught.exception.value, 2)

    def test_places_have_to_be_a_list(self):
        for function in (led, followed):
            for places in (None, True, 0, "", "1", (), (1,), {}, {1: 1}, Lets([1])):
                with self.assertRaises(InvalidList) as caught:
                    function(Lets([1]), [0, 1, 0, 1, 2], places)
                self.assertIs(caught.exception.value, places)

    def test_places_are_not_changed(self):
        row, places = [0, 1, 0, 1, 2], [1, 2, 3]
        led(Lets([1]), row, places)
        followed(Lets([1]), row, places)
        self.assertEqual((row, places), ([0, 1, 0, 1, 2], [1, 2, 3]))


if __name__ == "__main__":
    unittest.main()
