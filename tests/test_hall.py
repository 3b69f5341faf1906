"""[61] to [63] A row in which people join."""

import inspect
import unittest
from itertools import permutations

import plain
from gapswaps.errors import (
    InvalidDeed, InvalidFlag, InvalidHall, InvalidLets, InvalidList, InvalidNumber, InvalidPairs, InvalidPlace,
    NothingToRedo, NothingToUndo, TooMany,
)
from gapswaps.hall import Hall, is_why_not, places, sure, sure_since, towards, why_not
from gapswaps.lets import Lets
from gapswaps.travel import joined_orders

BIG = 10 ** 29
NO_COUNTS = [None, True, False, -1, BIG, "0", [0], (0,), {}, Lets([1])]
NO_HALLS = [None, True, 0, [], (), {}, "hall", Lets([1]), Hall]
FIVE = [("enter", 0), ("enter", 1), ("enter", 0), ("enter", 1), ("enter", 2)]


class Row:
    """The same row, told plainly: people as they stand, people by their height, promises, and the orders joined to it."""

    def __init__(self, told, people=(), heights=(), promises=()):
        self.told = told
        self.people, self.heights, self.promises = list(people), list(heights), sorted(promises)
        self.order = [self.heights.index(person) for person in self.people]
        # The people as they stand in each order joined to the one that stands.
        self.joined = [[self.heights[number] for number in order] for order in plain.order_class(told, self.order)]

    def keeping(self, promises):
        return [people for people in self.joined if all(people.index(one) < people.index(other) for one, other in promises)]

    def sure(self):
        return [(one, other) for one, other in permutations(range(len(self.people)), 2)
                if all(people.index(one) < people.index(other) for people in self.joined)]

    def done(self, deed):
        """The row behind a deed, None if it is refused."""
        word, one, other = deed[0], deed[1], deed[-1]
        people, heights, promises = list(self.people), list(self.heights), list(self.promises)
        many = len(people)
        if word == "enter":
            heights.insert(one, many)
            return Row(self.told, people + [many], heights, promises) if one <= many else None
        if word == "change":
            if one > many - 2 or not plain.has(self.told, plain.count_left(self.order, one)):
                return None
            return Row(self.told, plain.swapped(people, one), heights, promises)
        if one == other or one >= many or other >= many or ((one, other) in promises) != (word == "release"):
            return None
        if word == "release":
            promises.remove((one, other))
            return Row(self.told, people, heights, promises)
        promises.append((one, other))
        return Row(self.told, people, heights, promises) if self.keeping(promises) else None


class Deeds:
    """Some deeds, in no order; a plain count of its own makes them, so that each run has the same."""

    def __init__(self, seed):
        self.state = seed

    def below(self, many):
        self.state = (self.state * 6364136223846793005 + 1442695040888963407) % 2 ** 64
        return (self.state >> 33) % many

    def next(self, row):
        word = ("enter", "change", "change", "change", "promise", "promise", "promise", "release")[self.below(8)]
        if word in ("enter", "change"):
            return (word, self.below(6))
        if word == "release" and row.promises and self.below(4):
            return (word, *row.promises[self.below(len(row.promises))])
        return (word, self.below(6), self.below(6))


def some_halls():
    """Tuples of a told set, a hall and the rows behind each many of its deeds."""
    for at, told in enumerate(plain.FEW + [([2, 3], None), ([], 3)]):
        for seed in range(9):
            hall, rows, deeds = Hall(Lets(*told)), [Row(told)], Deeds(977 * at + seed)
            for step in range(32):
                deed = ("enter", seed % 2 and step % 2) if step < 3 else deeds.next(rows[-1])
                row = rows[-1].done(deed)
                if row is not None and len(row.people) < 6:
                    hall.do(deed)
                    rows.append(row)
            yield told, hall, rows


SOME = list(some_halls())


def state(hall):
    return (hall.order, hall.people, hall.promises, hall.log())


class DeedsTest(unittest.TestCase):
    def test_deeds_one_after_the_other(self):
        refused = {"enter": InvalidNumber, "change": InvalidPlace, "promise": InvalidPairs, "release": InvalidPairs}
        done = dict.fromkeys(refused, 0)
        for at, told in enumerate(plain.FEW):
            hall, row, log, deeds = Hall(Lets(*told)), Row(told), [], Deeds(at + 31)
            for _ in range(120):
                deed = deeds.next(row)
                behind = row.done(deed)
                if behind is None:
                    with self.assertRaises(refused[deed[0]]) as caught:
                        hall.do(deed)
                    self.assertEqual(caught.exception.value, deed[1] if deed[0] in ("enter", "change") else deed[1:])
                elif len(behind.people) < 6:
                    self.assertIsNone(hall.do(deed))
                    row = behind
                    log.append(deed)
                    done[deed[0]] += 1
                self.assertEqual(state(hall), (row.order, row.people, row.promises, log))
        self.assertGreater(min(done.values()), 4)

    def test_methods_do_what_do_does(self):
        one, other = Hall(Lets([1])), Hall(Lets([1]))
        for deed in FIVE + [("promise", 3, 1), ("change", 1), ("promise", 2, 1), ("release", 3, 1)]:
            self.assertIsNone(one.do(deed))
            self.assertIsNone(getattr(other, deed[0])(*deed[1:]))
            self.assertEqual((state(one), one), (state(other), other))
        self.assertIsNone(other.undo())
        self.assertIsNone(other.redo())
        by_name = Hall(lets=Lets([1]))
        by_name.enter(lesser=0)
        by_name.together(deeds=FIVE[1:], keep=True)
        by_name.promise(one=3, other=1)
        by_name.change(at=1)
        by_name.do(deed=("promise", 2, 1))
        by_name.release(one=3, other=1)
        self.assertEqual(by_name, one)

    def test_the_empty_hall(self):
        hall = Hall(Lets([1]))
        self.assertEqual(state(hall), ([], [], [], []))
        self.assertEqual((sure(hall), towards(hall), hall.together([])), ([], [], []))
        self.assertRaises(NothingToUndo, hall.undo)
        self.assertRaises(NothingToRedo, hall.redo)
        for at in (0, 1):
            self.assertRaises(InvalidPlace, hall.change, at)
            self.assertRaises(InvalidNumber, places, hall, at)
        self.assertRaises(InvalidPairs, hall.promise, 0, 1)
        self.assertRaises(InvalidPairs, why_not, hall, 0, 1)
        self.assertRaises(InvalidNumber, hall.enter, 1)
        hall.enter(0)
        self.assertEqual((state(hall), places(hall, 0)), (([0], [0], [], [("enter", 0)]), (0, 0)))

    def test_forty_people_and_one_more(self):
        hall = Hall(Lets([], 1))
        for number in range(40):
            hall.enter(number // 2)
        before = state(hall)
        for lesser in (0, 40):
            with self.assertRaises(TooMany) as caught:
                hall.enter(lesser)
            self.assertEqual(caught.exception.value, 41)
        for wrong in (41, -1, True, None, BIG):
            with self.assertRaises(InvalidNumber) as caught:
                hall.enter(wrong)
            self.assertIs(caught.exception.value, wrong)
        with self.assertRaises(TooMany):
            hall.together([("enter", 0)])
        self.assertEqual((state(hall), len(hall.people)), (before, 40))
        hall.undo()
        hall.enter(7)
        self.assertEqual(len(hall.people), 40)

    def test_wrong_arguments(self):
        for wrong in [None, True, 1, [1], (1,), {}] + [Lets(*told) for told in plain.NOT_GOOD]:
            with self.assertRaises(InvalidLets) as caught:
                Hall(wrong)
            self.assertIs(caught.exception.value, wrong)
        hall = Hall(Lets([1]))
        hall.together(FIVE)
        hall.promise(3, 1)
        before = state(hall)
        for wrong in NO_COUNTS + [6]:
            for asked in (hall.enter, lambda told: hall.do(("enter", told)), lambda told: hall.together([("enter", told)])):
                with self.assertRaises(InvalidNumber) as caught:
                    asked(wrong)
                self.assertIs(caught.exception.value, wrong)
        for wrong in NO_COUNTS + [0, 2, 3, 4, 5]:
            for asked in (hall.change, lambda told: hall.do(("change", told)), lambda told: hall.together([("change", told)])):
                with self.assertRaises(InvalidPlace) as caught:
                    asked(wrong)
                self.assertIs(caught.exception.value, wrong)
        for wrong in NO_COUNTS + [5]:
            for pair in ((wrong, 1), (1, wrong), (wrong, wrong), (3, wrong), (wrong, None)):
                for asked in (hall.promise, hall.release, lambda *told: hall.do(("promise", *told)),
                              lambda *told: hall.together([("release", *told)])):
                    with self.assertRaises(InvalidPairs) as caught:
                        asked(*pair)
                    self.assertEqual(caught.exception.value.__class__, tuple)
                    self.assertEqual(list(map(id, caught.exception.value)), list(map(id, pair)))
        for pair in ((3, 1), (1, 0), (4, 3), (2, 2), (1, 2), (1, 3)):
            with self.assertRaises(InvalidPairs) as caught:
                hall.promise(*pair)
            self.assertEqual(caught.exception.value, pair)
        for pair in ((1, 3), (0, 1), (3, True), (2, 1)):
            with self.assertRaises(InvalidPairs) as caught:
                hall.release(*pair)
            self.assertEqual(repr(caught.exception.value), repr(pair))
        self.assertEqual(state(hall), before)

    def test_wrong_deeds(self):
        hall = Hall(Lets([1]))
        hall.together(FIVE)
        wrong = [None, True, 0, "enter", (), [], ["enter", 0], ("enter",), ("enter", 0, 0), ("change",), ("change", 0, 1),
                 ("promise", 1), ("promise", 1, 2, 3), ("release",), ("undo",), ("redo",), ("do", ("enter", 0)), (0, "enter"),
                 (None, 0), (["enter"], 0), ("Enter", 0), ("", 0), ({}, 0), {"enter": 0}, Lets([1]), ("copy",), ((), ()),
                 ("together", [])]
        for deed in wrong:
            for asked in (hall.do, lambda told: hall.together([told]), lambda told: hall.together([("change", 1), told, None])):
                with self.assertRaises(InvalidDeed) as caught:
                    asked(deed)
                self.assertIs(caught.exception.value, deed)
        self.assertEqual(hall.log(), FIVE)


class UndoTest(unittest.TestCase):
    def test_back_and_forth(self):
        for told, hall, rows in SOME:
            found = hall.copy()
            log = hall.log()
            self.assertEqual(len(log) + 1, len(rows))
            for many in reversed(range(len(log))):
                self.assertIsNone(found.undo())
                row = rows[many]
                self.assertEqual(state(found), (row.order, row.people, row.promises, log[:many]))
            with self.assertRaises(NothingToUndo) as caught:
                found.undo()
            self.assertFalse(hasattr(caught.exception, "value"))
            for row in rows[1:]:
                self.assertIsNone(found.redo())
                self.assertEqual((found.order, found.people, found.promises), (row.order, row.people, row.promises))
            with self.assertRaises(NothingToRedo) as caught:
                found.redo()
            self.assertFalse(hasattr(caught.exception, "value"))
            self.assertEqual((state(found), found), (state(hall), hall))

    def test_another_deed_forgets_what_is_undone(self):
        for forget in (lambda hall: hall.enter(0), lambda hall: hall.change(1), lambda hall: hall.promise(3, 1),
                       lambda hall: hall.do(("change", 1)), lambda hall: hall.together([("change", 1)]),
                       lambda hall: hall.together([("promise", 3, 1), ("release", 3, 1)])):
            hall = Hall(Lets([1]))
            hall.together(FIVE + [("enter", 0), ("enter", 1)])
            hall.undo()
            hall.undo()
            forget(hall)
            self.assertRaises(NothingToRedo, hall.redo)

    def test_what_is_refused_forgets_nothing(self):
        hall = Hall(Lets([1]))
        hall.together(FIVE + [("enter", 0)])
        hall.undo()
        tried = [lambda: hall.enter(9), lambda: hall.change(0), lambda: hall.promise(1, 0), lambda: hall.release(1, 0),
                 lambda: hall.do(None), lambda: hall.together([("change", 1), ("change", 9)]), lambda: hall.together(None),
                 lambda: hall.together([("change", 1)], keep=None)]
        for asked in tried:
            self.assertRaises(ValueError, asked)
        hall.together([("change", 1)], keep=False)
        hall.together([])
        hall.redo()
        self.assertEqual(hall.log(), FIVE + [("enter", 0)])

    def test_a_redone_promise_and_a_deed_behind_it(self):
        hall = Hall(Lets([1]))
        hall.together(FIVE)
        hall.promise(3, 1)
        hall.change(1)
        hall.undo()
        hall.undo()
        self.assertEqual((hall.promises, hall.people), ([], [0, 1, 2, 3, 4]))
        hall.redo()
        self.assertEqual((hall.promises, hall.people), ([(3, 1)], [0, 1, 2, 3, 4]))
        hall.redo()
        self.assertEqual((hall.promises, hall.people), ([(3, 1)], [0, 2, 1, 3, 4]))


class TogetherTest(unittest.TestCase):
    def test_all_or_none(self):
        for told, hall, rows in SOME:
            found = Hall(Lets(*told))
            self.assertEqual(found.together(hall.log()), hall.people)
            self.assertEqual((state(found), found), (state(hall), hall))
            found.undo()
            self.assertEqual(found.order, rows[-2].order)
            before = state(found)
            self.assertEqual(found.together(hall.log()[-1:], keep=False), hall.people)
            self.assertEqual(state(found), before)
            self.assertRaises(InvalidDeed, found.together, hall.log()[-1:] + [None])
            self.assertRaises(InvalidDeed, found.together, hall.log()[-1:] + [None], keep=False)
            self.assertEqual(state(found), before)
            found.redo()
            self.assertEqual((state(found), found), (state(hall), hall))

    def test_the_first_error_is_raised(self):
        hall = Hall(Lets([1]))
        for deeds, error, value in (
                ([("enter", 0), ("enter", 2), None], InvalidNumber, 2), ([("enter", 0), ("change", 0), ("enter", -1)], InvalidPlace, 0),
                (FIVE + [("promise", 1, 0), ("release", 1, 0)], InvalidPairs, (1, 0)), ([None, ("enter", 5)], InvalidDeed, None)):
            for keep in (True, False):
                with self.assertRaises(error) as caught:
                    hall.together(deeds, keep=keep)
                self.assertEqual(caught.exception.value, value)
                self.assertEqual(state(hall), ([], [], [], []))

    def test_wrong_lists_and_flags(self):
        hall = Hall(Lets([1]))
        for wrong in (None, True, 0, (), ("enter", 0), (("enter", 0),), {}, "enter", hall):
            for keep in (True, None, 1):
                with self.assertRaises(InvalidList) as caught:
                    hall.together(wrong, keep=keep)
                self.assertIs(caught.exception.value, wrong)
        for wrong in (None, 0, 1, "", "True", [], (), [True], Lets([1])):
            for deeds in ([], [("enter", 0)], [None]):
                with self.assertRaises(InvalidFlag) as caught:
                    hall.together(deeds, keep=wrong)
                self.assertIs(caught.exception.value, wrong)
        self.assertEqual(hall.log(), [])
        self.assertRaises(TypeError, hall.together, [], True)

    def test_lists_are_not_kept(self):
        hall, deeds = Hall(Lets([1])), list(FIVE)
        people = hall.together(deeds)
        deeds.clear()
        people.clear()
        for thing in (hall.order, hall.people, hall.promises, hall.log(), sure(hall), towards(hall)):
            thing.append("changed")
        self.assertEqual(state(hall), ([3, 4, 0, 1, 2], [0, 1, 2, 3, 4], [], FIVE))
        self.assertIsNot(hall.people, hall.people)
        self.assertIsNot(hall.order, hall.order)
        self.assertIsNot(hall.promises, hall.promises)
        self.assertIsNot(hall.log(), hall.log())


class CopyTest(unittest.TestCase):
    def test_copies_go_on_apart(self):
        hall = Hall(Lets([1]))
        hall.together(FIVE + [("promise", 3, 1), ("change", 1)])
        hall.undo()
        copy = hall.copy()
        self.assertEqual((state(copy), copy), (state(hall), hall))
        copy.redo()
        self.assertEqual((copy.people, hall.people), ([0, 2, 1, 3, 4], [0, 1, 2, 3, 4]))
        hall.redo()
        self.assertEqual(hall.people, [0, 2, 1, 3, 4])
        hall.undo()
        hall.release(3, 1)
        self.assertEqual((copy.promises, hall.promises), ([(3, 1)], []))
        self.assertRaises(NothingToRedo, hall.redo)
        copy.undo()
        other = copy.copy()
        copy.enter(0)
        other.redo()
        self.assertEqual(other.people, [0, 2, 1, 3, 4])
        self.assertRaises(NothingToRedo, copy.redo)

    def test_equal_halls(self):
        halls = [(told, hall) for told, hall, _ in SOME[:12]]
        halls += [(told, Hall(Lets(*told))) for told in (([1], None), ([1], None), ([], 1))]
        for told, one in halls:
            for against, other in halls:
                alike = one.log() == other.log() and told == against
                self.assertIs(one == other, alike)
                self.assertIs(one != other, not alike)
        # What is undone does not count, nor how the deeds came about.
        one, other = Hall(Lets([2, 3], 4)), Hall(Lets([], 2))
        one.enter(0)
        other.together([("enter", 0), ("enter", 1)])
        other.undo()
        self.assertTrue(one == other)
        other.redo()
        self.assertFalse(one == other)
        for thing in (None, True, [], Lets([1]), "hall"):
            self.assertFalse(one == thing)

    def test_members_stand_in_the_class(self):
        for name in ("enter", "change", "promise", "release", "do", "undo", "redo", "together", "log", "copy", "order",
                     "people", "promises", "__init__", "__eq__"):
            self.assertIn(name, vars(Hall))
        for name in ("order", "people", "promises"):
            self.assertIsInstance(vars(Hall)[name], property)
        told = {"enter": "lesser", "change": "at", "promise": "one other", "release": "one other", "do": "deed", "undo": "",
                "redo": "", "together": "deeds keep", "log": "", "copy": ""}
        for name, arguments in told.items():
            self.assertEqual(list(inspect.signature(vars(Hall)[name]).parameters)[1:], arguments.split())


class ByAllOrdersTest(unittest.TestCase):
    def test_sure_people(self):
        for _, hall, rows in SOME:
            self.assertEqual(sure(hall), rows[-1].sure())

    def test_what_is_sure_stays_sure(self):
        for _, _, rows in SOME:
            for one, other in zip(rows, rows[1:]):
                self.assertLessEqual(set(one.sure()), set(other.sure()))

    def test_places(self):
        for _, hall, rows in SOME:
            row = rows[-1]
            kept = row.keeping(row.promises)
            for person in row.people:
                stood = {people.index(person) for people in kept}
                self.assertEqual(places(hall, person), (min(stood), max(stood)))
                self.assertEqual(len(stood), max(stood) - min(stood) + 1)

    def test_why_not(self):
        barred = longer = 0
        for _, hall, rows in SOME:
            row = rows[-1]
            left = row.sure() + row.promises
            for one, other in permutations(row.people, 2):
                can = row.keeping(row.promises + [(one, other)]) != []
                found = why_not(hall, one, other)
                self.assertEqual(found is None, can)
                if not can:
                    barred += 1
                    longer += len(found) > 2
                    self.assertEqual((found[0], found[-1]), (other, one))
                    self.assertTrue(all(pair in left for pair in zip(found, found[1:])))
                    self.assertIs(is_why_not(hall, one, other, found), True)
        self.assertGreater(longer, 3)
        self.assertGreater(barred, 100)

    def test_is_why_not(self):
        for _, hall, rows in SOME[::5]:
            row = rows[-1]
            left = row.sure() + row.promises
            for one, other in permutations(row.people, 2):
                for many in range(4):
                    for value in permutations(row.people, many):
                        right = value[:1] == (other,) and value[-1:] == (one,) and all(
                            pair in left for pair in zip(value, value[1:]))
                        self.assertIs(is_why_not(hall, one, other, list(value)), right)
                        self.assertIs(is_why_not(hall, one, other, value), False)
        hall = Hall(Lets([1]))
        hall.together(FIVE + [("promise", 3, 1)])
        self.assertIs(is_why_not(hall, 1, 2, [2, 3, 1]), True)
        for value in (None, True, 2, (2, 3, 1), [2, 3], [3, 1], [2, 1], [2, 3, True], [2, 3, 1, 1], [2, 9, 1], [2, 5, 1], [2, -1, 1],
                      [2, [3], 1], [BIG, 1], "231", hall, [], [2], [1], {}, [2, 3, 4, 1], [None] * 3):
            self.assertIs(is_why_not(hall, 1, 2, value), False)

    def test_towards(self):
        for told, hall, rows in SOME:
            row = rows[-1]
            people, order, met = row.people, row.order, set()
            for at in towards(hall):
                self.assertTrue(plain.has(told, plain.count_left(order, at)))
                pair = tuple(sorted(people[at:at + 2]))
                self.assertNotIn(pair, met)
                met.add(pair)
                people, order = plain.swapped(people, at), plain.swapped(order, at)
            self.assertIn(people, row.keeping(row.promises))

    def test_promises_that_can_be_made(self):
        for told, hall, rows in SOME[::2]:
            row = rows[-1]
            for one, other in permutations(row.people, 2):
                tried = hall.copy()
                if row.done(("promise", one, other)) is None:
                    self.assertRaises(InvalidPairs, tried.promise, one, other)
                else:
                    tried.promise(one, other)
                    self.assertEqual(tried.promises, sorted(row.promises + [(one, other)]))

    def test_a_promise_can_be_kept_for_ever(self):
        for told, hall, rows in SOME:
            self.assertTrue(all(row.keeping(row.promises) for row in rows))
            tried = hall.copy()
            tried.enter(len(tried.people) // 2)
            order, people = tried.order, tried.people
            for at in towards(tried):
                order, people = plain.swapped(order, at), plain.swapped(people, at)
            self.assertTrue(joined_orders(Lets(*told), tried.order, order))
            self.assertTrue(all(people.index(one) < people.index(other) for one, other in tried.promises))

    def test_sure_since(self):
        found_late = 0
        for _, hall, rows in SOME:
            now = rows[-1].people
            kept = [set(row.sure()) for row in rows]
            for one, other in permutations(now, 2):
                since = [many for many in range(len(rows)) if all((one, other) in told for told in kept[many:])]
                self.assertEqual(sure_since(hall, one, other), min(since, default=None))
                found_late += bool(since) and min(since) > max(one, other) + 1
        self.assertGreater(found_late, 10)

    def test_sure_since_without_what_is_undone(self):
        hall = Hall(Lets([1]))
        hall.together(FIVE)
        self.assertEqual((sure_since(hall, 0, 1), sure_since(hall, 0, 4), sure_since(hall, 1, 4)), (2, 5, None))
        hall.undo()
        self.assertEqual((sure_since(hall, 0, 1), sure_since(hall, 1, 0)), (2, None))
        self.assertRaises(InvalidPairs, sure_since, hall, 0, 4)

    def test_wrong_halls_and_people(self):
        hall = Hall(Lets([1]))
        hall.together(FIVE)
        for wrong in NO_HALLS:
            for asked in (sure, towards, lambda told: places(told, None), lambda told: places(told, 0),
                          lambda told: why_not(told, None, None), lambda told: is_why_not(told, 0, 0, None),
                          lambda told: sure_since(told, True, 9)):
                with self.assertRaises(InvalidHall) as caught:
                    asked(wrong)
                self.assertIs(caught.exception.value, wrong)
        for wrong in NO_COUNTS + [5]:
            with self.assertRaises(InvalidNumber) as caught:
                places(hall, wrong)
            self.assertIs(caught.exception.value, wrong)
            for pair in ((wrong, 1), (1, wrong), (wrong, wrong), (wrong, None)):
                for asked in (why_not, sure_since, lambda *told: is_why_not(*told, [1])):
                    with self.assertRaises(InvalidPairs) as caught:
                        asked(hall, *pair)
                    self.assertEqual(caught.exception.value.__class__, tuple)
                    self.assertEqual(list(map(id, caught.exception.value)), list(map(id, pair)))
        for asked in (why_not, sure_since, lambda *told: is_why_not(*told, [2, 2])):
            with self.assertRaises(InvalidPairs) as caught:
                asked(hall, 2, 2)
            self.assertEqual(caught.exception.value, (2, 2))

    def test_asking_changes_nothing(self):
        for _, hall, rows in SOME[::7]:
            before = state(hall)
            sure(hall), towards(hall), places(hall, 0), why_not(hall, 0, 1), sure_since(hall, 0, 1)
            is_why_not(hall, 0, 1, [1, 0])
            self.assertEqual(state(hall), before)


if __name__ == "__main__":
    unittest.main()
