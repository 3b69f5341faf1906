"""A row in which people join, change places, and are promised to come to stand left of others."""

from gapswaps.errors import (
    InvalidDeed, InvalidFlag, InvalidHall, InvalidList, InvalidNumber, InvalidPairs, InvalidPlace, NothingToRedo,
    NothingToUndo, TooMany,
)
from gapswaps.lets import need_good
from gapswaps.masks import closed_masks, first_behind, mask_of, numbers_in, ones, right_masks
from gapswaps.orders import exchanged, is_count, left_count
from gapswaps.pairs import sure_masks
from gapswaps.travel import order_way

MOST_PEOPLE = 40
# For each word of a deed, how many items stand behind it.
WORDS = {"enter": 1, "change": 1, "promise": 2, "release": 2}


def _is_deed(value):
    """Return whether a value is a tuple of the word of a deed and as many items as it takes."""
    if not isinstance(value, tuple) or not value or not isinstance(value[0], str):
        return False
    return WORDS.get(value[0]) == len(value) - 1


def _sure_left(lets, order, people):
    """Return, for each person, the mask of the people who stand surely left, by the order in which people stand."""
    left, _ = sure_masks(lets, order)
    found = [0] * len(people)
    persons = {number: people[at] for at, number in enumerate(order)}
    for number, mask in enumerate(left):
        found[persons[number]] = mask_of([persons[other] for other in numbers_in(mask)])
    return found


def _with_promises(left, promises):
    """Return masks of the people who stand surely left, to which those are put who are promised to."""
    found = list(left)
    for one, other in promises:
        found[other] |= 1 << one
    return found


class Hall:
    """A row of people, empty at first, who may change places by a good set."""

    def __init__(self, lets):
        need_good(lets)
        self._lets = lets
        # Behind each deed, and ahead of the first one: the order, the people and the promises, never changed again.
        self._states = [([], [], [])]
        self._deeds = []
        # What is undone, the last one undone last: deeds and the states behind them.
        self._undone = []

    @property
    def order(self):
        """The order that stands."""
        return list(self._states[-1][0])

    @property
    def people(self):
        """The numbers of the people, from left to right."""
        return list(self._states[-1][1])

    @property
    def promises(self):
        """The promises that stand, in order."""
        return list(self._states[-1][2])

    def log(self):
        """Return the deeds that stand, as do takes them."""
        return list(self._deeds)

    def __eq__(self, other):
        return isinstance(other, Hall) and self._lets == other._lets and self._deeds == other._deeds

    def lets(self):
        """Return the set by which people may change places."""
        return self._lets

    def many_deeds(self):
        """Return how many deeds stand."""
        return len(self._deeds)

    def has_two(self, one, other):
        """Return whether two values are numbers of two different people."""
        many = len(self._states[-1][1])
        return is_count(one) and is_count(other) and one < many and other < many and one != other

    def sure_left_behind(self, deeds):
        """Return, for each person who is there behind so many deeds, the mask of those who stand surely left then."""
        order, people, _ = self._states[deeds]
        return _sure_left(self._lets, order, people)

    def told_left(self):
        """Return, for each person, the mask of those who stand left surely or by a promise."""
        return _with_promises(self.sure_left_behind(len(self._deeds)), self._states[-1][2])

    def _done(self, deed, order, people, promises):
        """Keep a deed and what is behind it, and forget all that is undone."""
        self._states.append((order, people, promises))
        self._deeds.append(deed)
        self._undone = []

    def enter(self, lesser):
        """Let somebody join at the right end who is greater than just so many of those who stand there."""
        order, people, promises = self._states[-1]
        if not is_count(lesser) or lesser > len(order):
            raise InvalidNumber(lesser)
        if len(order) >= MOST_PEOPLE:
            raise TooMany(MOST_PEOPLE + 1)
        risen = [number + 1 if number >= lesser else number for number in order]
        self._done(("enter", lesser), risen + [lesser], people + [len(people)], promises)

    def change(self, at):
        """Let the two at a place and at the next one change places."""
        order, people, promises = self._states[-1]
        if not is_count(at) or at > len(order) - 2 or left_count(order, at) not in self._lets:
            raise InvalidPlace(at)
        self._done(("change", at), exchanged(order, at), exchanged(people, at), promises)

    def promise(self, one, other):
        """Promise that one person shall come to stand left of another one."""
        order, people, promises = self._states[-1]
        if not self.has_two(one, other) or (one, other) in promises:
            raise InvalidPairs((one, other))
        if len(first_behind(_with_promises(self.told_left(), [(one, other)]), [])) < len(people):
            raise InvalidPairs((one, other))
        self._done(("promise", one, other), order, people, sorted(promises + [(one, other)]))

    def release(self, one, other):
        """Take a promise back."""
        order, people, promises = self._states[-1]
        if not self.has_two(one, other) or (one, other) not in promises:
            raise InvalidPairs((one, other))
        self._done(("release", one, other), order, people, [pair for pair in promises if pair != (one, other)])

    def do(self, deed):
        """Do a deed that is told as a tuple."""
        if not _is_deed(deed):
            raise InvalidDeed(deed)
        if deed[0] == "enter":
            self.enter(deed[1])
        elif deed[0] == "change":
            self.change(deed[1])
        elif deed[0] == "promise":
            self.promise(deed[1], deed[2])
        else:
            self.release(deed[1], deed[2])

    def undo(self):
        """Undo the last deed that stands."""
        if not self._deeds:
            raise NothingToUndo()
        self._undone.append((self._deeds.pop(), self._states.pop()))

    def redo(self):
        """Do the deed again that was undone last."""
        if not self._undone:
            raise NothingToRedo()
        deed, state = self._undone.pop()
        self._deeds.append(deed)
        self._states.append(state)

    def copy(self):
        """Return a hall of its own that is as this one is, with what is undone."""
        found = Hall(self._lets)
        found._take(self)
        return found

    def _take(self, other):
        """Become as another hall is."""
        self._states = list(other._states)
        self._deeds = list(other._deeds)
        self._undone = list(other._undone)

    def together(self, deeds, *, keep=True):
        """Do the deeds of a list, all or none, and return the people as they stand then; without keep, do none."""
        if not isinstance(deeds, list):
            raise InvalidList(deeds)
        if not isinstance(keep, bool):
            raise InvalidFlag(keep)
        # A copy takes the deeds first: so nothing is changed here if one of them is refused.
        tried = self.copy()
        for deed in deeds:
            tried.do(deed)
        if keep:
            self._take(tried)
        return tried.people


def _need_hall(hall):
    """Refuse what is no hall."""
    if not isinstance(hall, Hall):
        raise InvalidHall(hall)


def _need_two(hall, one, other):
    """Refuse what is no hall, and then what are no numbers of two different people in it."""
    _need_hall(hall)
    if not hall.has_two(one, other):
        raise InvalidPairs((one, other))


def sure(hall):
    """Return the list of the tuples of two people the first of whom stands surely left of the second."""
    _need_hall(hall)
    right = right_masks(hall.sure_left_behind(hall.many_deeds()))
    return [(one, other) for one, mask in enumerate(right) for other in numbers_in(mask)]


def why_not(hall, one, other):
    """Return None if one can come to stand left of other, otherwise people from other to one that show why not."""
    _need_two(hall, one, other)
    right = right_masks(hall.told_left())
    trails = {other: [other]}
    fresh = [other]
    while fresh:
        met = []
        for person in fresh:
            for behind in numbers_in(right[person]):
                if behind not in trails:
                    trails[behind] = trails[person] + [behind]
                    met.append(behind)
        fresh = met
    return trails.get(one)


def is_why_not(hall, one, other, value):
    """Return whether a value is a list of people as why_not returns one."""
    _need_two(hall, one, other)
    left = hall.told_left()
    if not isinstance(value, list) or len(value) < 2:
        return False
    if not all([is_count(person) and person < len(left) for person in value]):
        return False
    if value[0] != other or value[-1] != one:
        return False
    return all([left[person] >> value[at] & 1 for at, person in enumerate(value[1:])])


def towards(hall):
    """Return places at which let deeds lead to an order that keeps all promises, no two people exchanged twice."""
    _need_hall(hall)
    order = hall.order
    numbers = {person: order[at] for at, person in enumerate(hall.people)}
    goal = [numbers[person] for person in first_behind(hall.told_left(), [])]
    return order_way(hall.lets(), order, goal)


def places(hall, person):
    """Return the least and the greatest place at which a person stands in joined orders that keep all promises."""
    _need_hall(hall)
    many = len(hall.people)
    if not is_count(person) or person >= many:
        raise InvalidNumber(person)
    left = closed_masks(hall.told_left())
    return (ones(left[person]), many - 1 - ones(right_masks(left)[person]))


def sure_since(hall, one, other):
    """Return behind how many deeds, and all further ones, one stands surely left of other, None if that is not so."""
    _need_two(hall, one, other)
    found = None
    for deeds in reversed(range(hall.many_deeds() + 1)):
        left = hall.sure_left_behind(deeds)
        if max(one, other) >= len(left) or not left[other] >> one & 1:
            return found
        found = deeds
    return found
