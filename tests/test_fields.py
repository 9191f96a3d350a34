"""Points [14] and [15], and framehistory/fields.py."""

import itertools
import random
import unittest
from unittest import mock

from framehistory import fields, searches
from framehistory.deciding import Fails, Safe, decide
from framehistory.errors import BadCosts, BadField, BadSite, TooLarge
from framehistory.fields import Chosen, Family, breaches, choose, family, rescues
from framehistory.keeping import Peak
from framehistory.machines import Machine
from framehistory.routes import NoRoute, Route
from framehistory.sites import ALL_CARES, Site
from tests.makers import Anything, any_site
from tests.searching import failure_of
from tests.test_deeds import NOT_SITES

EIGHT = ALL_CARES[:8]
DOC_SITE = Site({"a": (("x", "b"),), "b": ()}, {"a": (), "b": ("b",)}, "a")
GO = ("go", ("x",), "b")
# Any one of three cares will do.
ANY_SITE = Site({"a": ()}, {"a": ()}, "a", cap=4, pushes=("a",), drops=True, clears=True)
ANY_FIXED, ANY_FREE = ("joint", "prunes", "nests", "names"), ("states", "shares", "holds")
# One care is needed, and another one does harm.
HARM_SITE = Site(
    {"a": (), "b": (("y", "a"),)}, {"a": ("b",), "b": ()}, "b", cap=2, pushes=("a",), drops=True, clears=True, reopens=True,
)
HARM_FIXED, HARM_FREE = ("joint", "nests", "names", "states", "merges", "shares"), ("prunes", "covers", "holds")
# Without states, nothing is safe.
NONE_SITE = Site({"a": ()}, {"a": ("a",)}, "a", cap=4, pushes=("a",), drops=True, clears=True, reopens=True)
NONE_FIXED, NONE_FREE = ("joint", "prunes", "shares"), ("nests", "merges", "holds")
# All three are needed.
ALL_SITE = Site({"a": (("y", "b"),), "b": ()}, {"a": ("b",), "b": ()}, "a", cap=2, pushes=("b",), drops=True, reopens=True)
ALL_FIXED, ALL_FREE = ("joint", "nests", "names", "merges", "shares", "holds"), ("prunes", "states", "covers")
# One of two cares is needed; there is nothing that a third one does.
TWO_SITE = Site({"a": ()}, {"a": ("a",)}, "a", pushes=("a",), drops=True, clears=True)
TWO_FIXED, TWO_FREE = ("joint", "names", "merges", "covers"), ("nests", "states", "holds")
FIELDS = (
    (DOC_SITE, ("prunes", "covers"), ("joint", "holds")), (ANY_SITE, ANY_FIXED, ANY_FREE), (HARM_SITE, HARM_FIXED, HARM_FREE),
    (NONE_SITE, NONE_FIXED, NONE_FREE), (ALL_SITE, ALL_FIXED, ALL_FREE), (TWO_SITE, TWO_FIXED, TWO_FREE),
)
NOT_SETS = (
    None, 0, True, "", "joint", ["joint"], [], {}, {"joint": 1}, set(), {"joint"}, ("Joint",), (None,), (1,), (True,), ([],),
    ({},), (("joint",),), ("joint", "joint"), ("prunes", "joint"), ("joint", "holds", "shares"), (b"joint",), object(),
    range(0), Anything(), (Anything(),), ALL_CARES[::-1], ("",), ("joint prunes",), Site, DOC_SITE,
)
NOT_COSTS = (
    None, 0, True, "", "joint", (), [], [("joint", 1), ("holds", 2)], set(), {"joint", "holds"}, object(), Anything(), {},
    {"joint": 1}, {"holds": 1}, {"joint": 1, "holds": 2, "covers": 3}, {"joint": 1, "covers": 3}, {"joint": 1, "Holds": 2},
    {"joint": 1, None: 2}, {"joint": 1, 1: 2}, {"joint": 1, True: 2}, {"joint": 1, ("holds",): 2}, {"joint": 1, Anything(): 2},
    {"joint": 1, b"holds": 2}, {"joint": 1, "holds": -1}, {"joint": 1, "holds": 100}, {"joint": 100, "holds": 0},
    {"joint": -1, "holds": 0}, {"joint": True, "holds": 1}, {"joint": 1, "holds": False}, {"joint": 1, "holds": None},
    {"joint": 1, "holds": "2"}, {"joint": 1, "holds": [2]}, {"joint": 1, "holds": (2,)}, {"joint": {}, "holds": 1},
    {"joint": 1, "holds": Anything()}, {"joint": 10 ** 30, "holds": 1}, {"joint": 1, "holds": -10 ** 30},
)


def sets_of(free):
    """All sets of some cares, in the order of the document."""
    return [chosen for many in range(len(free) + 1) for chosen in itertools.combinations(free, many)]


def joined(fixed, chosen):
    return tuple(sorted(fixed + chosen, key=ALL_CARES.index))


def any_field(chance):
    """Return some site with fixed and free cares."""
    drawn = chance.sample(ALL_CARES, chance.choice([0, 1, 2, 3, 3, 3]))
    free = tuple(care for care in ALL_CARES if care in drawn)
    fixed = tuple(care for care in ALL_CARES if care not in free and chance.random() < 0.85)
    site = any_site(chance)
    # Few links, so that there are not too many states in most cases.
    links = {address: tuple(to for to in site.links[address] if chance.random() < 0.5) for address in site.links}
    more = {"cap": min(site.cap, 3), "pushes": site.pushes[:1], "drops": site.drops, "clears": site.clears}
    return Site(site.frames, links, site.home, reopens=site.reopens, **more), fixed, free


class Plain:
    """What is so of a field, from deciding each set by itself, and from the second reading of the document."""

    def __init__(self, site, fixed, free):
        self.site, self.fixed, self.sets = site, fixed, sets_of(free)
        self.safe = []
        self.histories = []
        for chosen in self.sets:
            found = decide(site, joined(fixed, chosen))
            if isinstance(found, Safe):
                self.safe.append(chosen)
            else:
                self.histories.append(found.history)

    def refutes(self, history, chosen):
        return failure_of(self.site, joined(self.fixed, chosen), history) not in (None, "no")

    def is_refuted(self, chosen, doubts):
        return any(self.refutes(history, chosen) for history in doubts)

    def are_histories(self, doubts):
        return all(failure_of(self.site, EIGHT, history) != "no" for history in doubts)

    def is_family(self, sets, doubts):
        others = [chosen for chosen in self.sets if chosen not in self.safe]
        return sets == self.safe and self.are_histories(doubts) and all(self.is_refuted(one, doubts) for one in others)

    def steps(self):
        return [(less, more) for less in self.sets for more in self.sets if len(more) == len(less) + 1 and set(less) < set(more)]

    def best(self, costs):
        price = {chosen: sum(costs[care] for care in chosen) for chosen in self.sets}
        return min(self.safe, key=lambda chosen: price[chosen], default=None)

    def is_chosen(self, found, doubts, costs):
        if found != self.best(costs) or not self.are_histories(doubts):
            return False
        price = {chosen: sum(costs[care] for care in chosen) for chosen in self.sets}
        lesser = [chosen for chosen in self.sets if found is None or price[chosen] < price[found]]
        return all(self.is_refuted(chosen, doubts) for chosen in lesser)


class Families(unittest.TestCase):
    def check(self, site, fixed, free):
        plain = Plain(site, fixed, free)
        found = family(site, fixed, free)
        self.assertEqual([found.sets, type(found.sets), type(found.doubts)], [plain.safe, list, list])
        self.assertTrue(plain.is_family(found.sets, found.doubts), found.doubts)
        self.assertIs(found.shows(site, fixed, free), True)
        self.assertEqual(breaches(site, fixed, free), [
            (less, more) for less, more in plain.steps() if less in plain.safe and more not in plain.safe
        ])
        self.assertEqual(rescues(site, fixed, free), [
            (less, more) for less, more in plain.steps() if less not in plain.safe and more in plain.safe
        ])
        self.assertEqual(found.least(), [
            one for one in plain.safe if not any(set(other) < set(one) for other in plain.safe)
        ])
        self.assertEqual(found.greatest(), [
            one for one in plain.safe if not any(set(other) > set(one) for other in plain.safe)
        ])
        return found

    def test_the_document(self):
        found = self.check(*FIELDS[0])
        self.assertEqual([found.sets, found.least(), found.greatest()], [
            [("joint",), ("joint", "holds")], [("joint",)], [("joint", "holds")],
        ])
        self.assertEqual(rescues(DOC_SITE, ("prunes", "covers"), ("joint",)), [((), ("joint",))])
        self.assertEqual(found.doubts, [(GO,)])

    def test_any_of_three(self):
        found = self.check(ANY_SITE, ANY_FIXED, ANY_FREE)
        self.assertEqual(found.sets, sets_of(ANY_FREE)[1:])
        self.assertEqual([found.least(), found.greatest()], [[("states",), ("shares",), ("holds",)], [ANY_FREE]])
        self.assertEqual(breaches(ANY_SITE, ANY_FIXED, ANY_FREE), [])
        self.assertEqual(rescues(ANY_SITE, ANY_FIXED, ANY_FREE), [((), (care,)) for care in ANY_FREE])

    def test_a_care_that_does_harm(self):
        found = self.check(HARM_SITE, HARM_FIXED, HARM_FREE)
        self.assertEqual(found.sets, [("covers",), ("prunes", "covers")])
        self.assertEqual([found.least(), found.greatest()], [[("covers",)], [("prunes", "covers")]])
        self.assertEqual(breaches(HARM_SITE, HARM_FIXED, HARM_FREE), [
            (("covers",), ("covers", "holds")), (("prunes", "covers"), ("prunes", "covers", "holds")),
        ])
        self.assertEqual(rescues(HARM_SITE, HARM_FIXED, HARM_FREE), [((), ("covers",)), (("prunes",), ("prunes", "covers"))])

    def test_no_set_is_safe(self):
        found = self.check(NONE_SITE, NONE_FIXED, NONE_FREE)
        self.assertEqual([found.sets, found.least(), found.greatest()], [[], [], []])
        self.assertEqual([breaches(NONE_SITE, NONE_FIXED, NONE_FREE), rescues(NONE_SITE, NONE_FIXED, NONE_FREE)], [[], []])

    def test_all_are_needed(self):
        found = self.check(ALL_SITE, ALL_FIXED, ALL_FREE)
        self.assertEqual([found.sets, found.least(), found.greatest()], [[ALL_FREE]] * 3)
        pairs = list(itertools.combinations(ALL_FREE, 2))
        self.assertEqual(rescues(ALL_SITE, ALL_FIXED, ALL_FREE), [(pair, ALL_FREE) for pair in pairs])

    def test_every_set_is_safe(self):
        site = Site({"a": ()}, {"a": ()}, "a", cap=2, drops=True, clears=True, reopens=True)
        found = self.check(site, (), ("joint", "names", "holds"))
        self.assertEqual([found.sets, found.doubts], [sets_of(("joint", "names", "holds")), []])
        self.assertEqual([found.least(), found.greatest()], [[()], [("joint", "names", "holds")]])

    def test_no_free_cares(self):
        found = self.check(DOC_SITE, ("joint",), ())
        self.assertEqual([found.sets, found.doubts, found.least(), found.greatest()], [[()], [], [()], [()]])
        found = self.check(DOC_SITE, EIGHT[1:], ())
        self.assertEqual([found.sets, found.doubts], [[], [(GO,)]])

    def test_free_cares_before_fixed_ones(self):
        self.check(HARM_SITE, ("holds",), ("joint", "prunes", "shares"))
        self.check(HARM_SITE, ALL_CARES[3:], ALL_CARES[:3])
        self.check(HARM_SITE, ALL_CARES[:6], ALL_CARES[6:])

    def test_any_fields(self):
        kinds = set()
        checked = 0
        for seed in range(200):
            field = any_field(random.Random(seed))
            with mock.patch.object(searches, "LIMIT", 60):
                try:
                    Plain(*field)
                except TooLarge:
                    continue
                found = self.check(*field)
            checked += 1
            kinds.add(tuple(tuple(field[2].index(care) for care in chosen) for chosen in found.sets))
        self.assertGreater(checked, 30)
        self.assertGreater(len(kinds), 8)


class FamilyShows(unittest.TestCase):
    def setUp(self):
        self.field = (HARM_SITE, HARM_FIXED, HARM_FREE)
        self.plain = Plain(*self.field)
        self.found = family(*self.field)
        # One history for each set that is not safe, and no others.
        self.doubts = []
        for chosen in self.plain.sets:
            if chosen not in self.plain.safe and not self.plain.is_refuted(chosen, self.doubts):
                self.doubts.append(decide(HARM_SITE, joined(HARM_FIXED, chosen)).history)

    def says(self, sets, doubts, right):
        self.assertIs(Family(sets, doubts).shows(*self.field), right, (sets, doubts))
        self.assertEqual(self.plain.is_family(sets, doubts), right)

    def test_other_sets(self):
        first, second = self.found.sets
        self.says([first, second], self.doubts, True)
        self.says([second, first], self.doubts, False)
        self.says([first, first, second], self.doubts, False)
        self.says([first, second, second], self.doubts, False)
        self.says([first, second, first], self.doubts, False)
        self.says([first], self.doubts, False)
        self.says([second], self.doubts, False)
        self.says([], self.doubts, False)
        for other in self.plain.sets:
            if other not in self.found.sets:
                for sets in ([other, first, second], [first, other, second], [first, second, other]):
                    self.says(sets, self.doubts, False)
                    self.says(sorted(sets, key=self.plain.sets.index), self.doubts, False)
        self.says([first, second, ("joint",)], self.doubts, False)
        self.says([("shares",), first, second], self.doubts, False)
        self.says([joined(HARM_FIXED, first), joined(HARM_FIXED, second)], self.doubts, False)

    def test_a_doubt_is_missing(self):
        self.assertGreater(len(self.doubts), 1)
        self.says(self.found.sets, [], False)
        for index in range(len(self.doubts)):
            left = self.doubts[:index] + self.doubts[index + 1:]
            others = [one for one in self.plain.sets if one not in self.plain.safe]
            self.says(self.found.sets, left, all(self.plain.is_refuted(one, left) for one in others))
        self.says(self.found.sets, self.doubts[:-1], False)

    def test_doubts_that_refute_nothing(self):
        for index, doubt in enumerate(self.doubts):
            for other in (
                (), doubt[:-1], doubt + (("reopen",),), (("reopen",),), (("back",),), (("next",),) + doubt,
                (("drop", ("y", "y")),), (("push", ()),),
            ):
                doubts = self.doubts[:index] + [other] + self.doubts[index + 1:]
                expected = self.plain.is_family(self.found.sets, doubts)
                self.says(self.found.sets, doubts, expected)
                if index == len(self.doubts) - 1:
                    self.assertFalse(expected)

    def test_a_doubt_that_fails_before_its_last_deed(self):
        site, fixed, free = FIELDS[0]
        found = family(site, fixed, free)
        self.assertEqual(found.doubts, [(GO,)])
        for doubt in ((GO, GO), (GO, ("back",)), (GO, ("back",), ("next",))):
            self.assertIs(Family(found.sets, [doubt]).shows(site, fixed, free), False)
            self.assertIs(Family(found.sets, [doubt, (GO,)]).shows(site, fixed, free), True)

    def test_additional_histories(self):
        for other in ((), (("reopen",),), (("clear",), ("push", ("y",)), ("back",)), self.doubts[0], self.doubts[0][:-1]):
            self.says(self.found.sets, self.doubts + [other], True)
            self.says(self.found.sets, [other] + self.doubts, True)
        self.says(self.found.sets, self.doubts * 3, True)
        self.says(self.found.sets, self.doubts[::-1], True)

    def test_additional_doubts_that_are_no_histories(self):
        for other in ((("back",),), (("next",),), (("push", ()),), self.doubts[0][:-1] + (("push", ()),)):
            self.says(self.found.sets, self.doubts + [other], False)
            self.says(self.found.sets, [other] + self.doubts, False)

    def test_of_other_fields(self):
        for one in FIELDS:
            found = family(*one)
            for other in FIELDS:
                self.assertIs(found.shows(*other), Plain(*other).is_family(found.sets, found.doubts))
        found = family(DOC_SITE, ("prunes", "covers"), ("joint", "holds"))
        self.assertIs(found.shows(DOC_SITE, ("prunes",), ("joint", "holds")), True)
        self.assertIs(found.shows(DOC_SITE, ("prunes",), ("joint", "names")), False)
        self.assertIs(found.shows(DOC_SITE, ("prunes", "holds"), ("joint",)), False)

    def test_what_is_shown_is_what_is_there_now(self):
        found = family(*self.field)
        found.sets.append(())
        self.assertIs(found.shows(*self.field), False)
        found.sets = list(self.found.sets)
        self.assertIs(found.shows(*self.field), True)
        found.doubts.clear()
        self.assertIs(found.shows(*self.field), False)
        found.doubts = self.doubts
        self.assertIs(found.shows(*self.field), True)

    def test_any_fields(self):
        told = {True: 0, False: 0}
        for seed in range(60):
            chance = random.Random(seed)
            field = any_field(chance)
            with mock.patch.object(searches, "LIMIT", 60):
                try:
                    plain = Plain(*field)
                except TooLarge:
                    continue
            for _ in range(6):
                sets = [one for one in plain.sets if (one in plain.safe) == (chance.random() < 0.97)]
                doubts = [chance.choice(plain.histories) for _ in plain.histories]
                doubts = [one if chance.random() < 0.9 else one[:-1] for one in doubts]
                found = Family(sets, doubts).shows(*field)
                self.assertIs(found, plain.is_family(sets, doubts))
                told[found] += 1
        self.assertGreater(min(told.values()), 20)


class Sets(unittest.TestCase):
    def test_least_and_greatest(self):
        sets = [("joint",), ("names",), ("joint", "holds"), ("nests", "names"), ("states", "holds"), ("joint", "nests", "holds")]
        found = Family(sets, [])
        self.assertEqual(found.least(), [("joint",), ("names",), ("states", "holds")])
        self.assertEqual(found.greatest(), [("nests", "names"), ("states", "holds"), ("joint", "nests", "holds")])

    def test_the_empty_set(self):
        self.assertEqual([Family([()], []).least(), Family([()], []).greatest()], [[()], [()]])
        found = Family([(), ("joint",), ("holds",)], [])
        self.assertEqual([found.least(), found.greatest()], [[()], [("joint",), ("holds",)]])

    def test_they_are_those_of_now(self):
        found = Family([("joint",), ("joint", "holds")], [])
        found.least().clear()
        found.greatest().clear()
        self.assertEqual([found.least(), found.greatest()], [[("joint",)], [("joint", "holds")]])
        found.sets.insert(0, ())
        self.assertEqual(found.least(), [()])
        found.sets = [("names",)]
        self.assertEqual([found.least(), found.greatest()], [[("names",)], [("names",)]])


class Choosing(unittest.TestCase):
    def check(self, site, fixed, free, costs, plain=None):
        plain = plain or Plain(site, fixed, free)
        found = choose(site, fixed, free, costs)
        self.assertEqual(found.found, plain.best(costs))
        self.assertTrue(plain.is_chosen(found.found, found.doubts, costs), found.doubts)
        self.assertIs(found.shows(site, fixed, free, costs), True)
        return found

    def test_the_document(self):
        costs = {"joint": 3, "covers": 0}
        self.assertEqual(self.check(DOC_SITE, ("prunes",), ("joint", "covers"), costs).found, ("joint",))

    def test_the_least_cost(self):
        for costs, expected in (
            ((1, 2, 3), ("states",)), ((3, 1, 2), ("shares",)), ((3, 2, 1), ("holds",)), ((99, 99, 98), ("holds",)),
            ((0, 0, 0), ("states",)), ((2, 1, 1), ("shares",)), ((1, 2, 1), ("states",)), ((1, 0, 0), ("shares",)),
            ((0, 99, 99), ("states",)),
        ):
            found = self.check(ANY_SITE, ANY_FIXED, ANY_FREE, dict(zip(ANY_FREE, costs)))
            self.assertEqual(found.found, expected)

    def test_the_first_of_the_same_cost(self):
        # A larger set costs as much as a smaller one that comes first, or less than a smaller one.
        found = self.check(HARM_SITE, HARM_FIXED, HARM_FREE, {"prunes": 0, "covers": 5, "holds": 0})
        self.assertEqual(found.found, ("covers",))
        free = ("joint", "states", "shares")
        site = Site({"a": (("x", "b"),), "b": ()}, {"a": (), "b": ("b",)}, "a", cap=2, pushes=("b",), clears=True)
        for costs in itertools.product((0, 1, 2), repeat=3):
            self.check(site, ("prunes", "nests", "names", "merges", "covers"), free, dict(zip(free, costs)))

    def test_costs_in_any_order(self):
        for order in itertools.permutations(ANY_FREE):
            costs = {care: {"states": 7, "shares": 5, "holds": 6}[care] for care in order}
            self.assertEqual(self.check(ANY_SITE, ANY_FIXED, ANY_FREE, costs).found, ("shares",))

    def test_none_is_safe(self):
        for costs in ({"nests": 0, "merges": 0, "holds": 0}, {"nests": 99, "merges": 1, "holds": 50}):
            found = self.check(NONE_SITE, NONE_FIXED, NONE_FREE, costs)
            self.assertIsNone(found.found)
            self.assertGreater(len(found.doubts), 0)

    def test_no_free_cares(self):
        found = self.check(DOC_SITE, ("joint",), (), {})
        self.assertEqual([found.found, found.doubts], [(), []])
        self.assertEqual(self.check(DOC_SITE, ("names",), (), {}), Chosen(None, [(GO,)]))

    def test_nothing_is_needed(self):
        for costs in ({"names": 0, "holds": 0}, {"names": 4, "holds": 2}):
            self.assertEqual(self.check(DOC_SITE, ("joint",), ("names", "holds"), costs), Chosen((), []))

    def test_any_fields(self):
        checked = 0
        for seed in range(200):
            chance = random.Random(seed)
            field = any_field(chance)
            with mock.patch.object(searches, "LIMIT", 60):
                try:
                    plain = Plain(*field)
                except TooLarge:
                    continue
                for most in (2, 99):
                    costs = {care: chance.randint(0, most) for care in chance.sample(field[2], len(field[2]))}
                    checked += self.check(*field, costs, plain).found not in ((), None)
        self.assertGreater(checked, 15)


class ChosenShows(unittest.TestCase):
    def setUp(self):
        self.plain = Plain(HARM_SITE, HARM_FIXED, HARM_FREE)
        self.costs = {"prunes": 0, "covers": 3, "holds": 2}
        self.found = choose(HARM_SITE, HARM_FIXED, HARM_FREE, self.costs)

    def says(self, found, doubts, right, costs=None):
        costs = costs or self.costs
        self.assertIs(Chosen(found, doubts).shows(HARM_SITE, HARM_FIXED, HARM_FREE, costs), right, (found, doubts))
        self.assertEqual(self.plain.is_chosen(found, doubts, costs), right)

    def test_other_sets(self):
        self.assertEqual(self.found.found, ("covers",))
        self.says(("covers",), self.found.doubts, True)
        self.says(None, self.found.doubts, False)
        self.says(None, self.plain.histories, False)
        for other in self.plain.sets + [("joint",), ("shares", "holds"), joined(HARM_FIXED, ("covers",)), ALL_CARES]:
            self.says(other, self.found.doubts, other == ("covers",))
            self.says(other, self.plain.histories, other == ("covers",))

    def test_one_that_costs_as_much_but_comes_later(self):
        self.says(("prunes", "covers"), self.plain.histories, False)
        # Where that care costs nothing less, the sets before it need no doubt to be not safe.
        for costs in ({"prunes": 0, "covers": 0, "holds": 0}, {"prunes": 5, "covers": 5, "holds": 5}):
            doubts = choose(HARM_SITE, HARM_FIXED, HARM_FREE, costs).doubts
            self.says(("covers",), doubts, True, costs)
            self.says(("prunes",), doubts, False, costs)
            self.says((), doubts, False, costs)
        self.says(("covers",), [], True, {"prunes": 0, "covers": 0, "holds": 0})
        self.says(("covers",), [], False, {"prunes": 1, "covers": 1, "holds": 1})

    def test_doubts(self):
        self.assertGreater(len(self.found.doubts), 0)
        self.says(("covers",), [], False)
        last = self.found.doubts[-1]
        for other in ((), last[:-1], last + (("reopen",),), (("reopen",),), (("back",),), (("next",),) + last):
            doubts = self.found.doubts[:-1] + [other]
            self.says(("covers",), doubts, self.plain.is_chosen(("covers",), doubts, self.costs))
        self.says(("covers",), [()], False)
        self.says(("covers",), [(("back",),)], False)
        for other in ((), (("reopen",),), (("clear",), ("push", ("y",)), ("back",)), last, last[:-1]):
            self.says(("covers",), self.found.doubts + [other], True)
            self.says(("covers",), [other] + self.found.doubts, True)
        for other in ((("back",),), (("push", ()),)):
            self.says(("covers",), self.found.doubts + [other], False)

    def test_a_doubt_that_fails_before_its_last_deed(self):
        field, costs = (DOC_SITE, (), ("joint",)), {"joint": 1}
        self.assertEqual(choose(*field, costs), Chosen(("joint",), [(GO,)]))
        self.assertIs(Chosen(("joint",), [(GO, GO)]).shows(*field, costs), False)
        self.assertIs(Chosen(("joint",), [(GO, GO), (GO,)]).shows(*field, costs), True)

    def test_none(self):
        costs = {"nests": 1, "merges": 2, "holds": 3}
        field = (NONE_SITE, NONE_FIXED, NONE_FREE)
        plain = Plain(*field)
        for doubts in (plain.histories, plain.histories[:1], plain.histories[-1:], [], [()]):
            self.assertIs(Chosen(None, doubts).shows(*field, costs), plain.is_chosen(None, doubts, costs))
        self.assertIs(Chosen(None, plain.histories).shows(*field, costs), True)
        self.assertIs(Chosen(None, []).shows(*field, costs), False)
        for chosen in plain.sets:
            self.assertIs(Chosen(chosen, plain.histories).shows(*field, costs), False)

    def test_other_costs(self):
        doubts = self.plain.histories
        for costs in itertools.product((0, 1), repeat=3):
            costs = dict(zip(HARM_FREE, costs))
            for chosen in self.plain.sets + [None]:
                self.says(chosen, doubts, chosen == self.plain.best(costs), costs)

    def test_what_is_shown_is_what_is_there_now(self):
        field = (HARM_SITE, HARM_FIXED, HARM_FREE, self.costs)
        doubts = list(self.found.doubts)
        self.found.doubts.clear()
        self.assertIs(self.found.shows(*field), False)
        self.found.doubts.extend(doubts)
        self.assertIs(self.found.shows(*field), True)
        self.found.found = None
        self.assertIs(self.found.shows(*field), False)


class Equality(unittest.TestCase):
    def test_families(self):
        first = Family([("joint",)], [(GO,)])
        self.assertTrue(first == Family([("joint",)], [(GO,)]) and not first != Family([("joint",)], [(GO,)]))
        for other in (Family([], [(GO,)]), Family([("joint",)], []), Family([("holds",)], [(GO,)]), Family([("joint",)], [()])):
            self.assertTrue(first != other and not first == other)
        self.assertEqual(family(*FIELDS[0]), family(*FIELDS[0]))

    def test_chosen(self):
        first = Chosen(("joint",), [(GO,)])
        self.assertTrue(first == Chosen(("joint",), [(GO,)]) and not first != Chosen(("joint",), [(GO,)]))
        for other in (Chosen(None, [(GO,)]), Chosen(("joint",), []), Chosen((), [(GO,)]), Chosen(("joint",), [()])):
            self.assertTrue(first != other and not first == other)

    def test_other_classes(self):
        things = [
            Family([], []), Chosen([], []), Safe([]), Fails([]), Peak([], [], []), Route((), {}), NoRoute([]), DOC_SITE,
            Machine(DOC_SITE), None, [], ((), []), ([], []),
        ]
        for one in things:
            for other in things:
                self.assertEqual(one == other, one is other)
                self.assertEqual(one != other, one is not other)


class Copies(unittest.TestCase):
    def test_lists_are_copied(self):
        sets, doubts = [("joint",)], [(GO,)]
        found, chosen = Family(sets, doubts), Chosen(("joint",), doubts)
        sets.append(("holds",))
        doubts.clear()
        self.assertEqual([found.sets, found.doubts, chosen.doubts], [[("joint",)], [(GO,)], [(GO,)]])
        found.doubts.append(())
        self.assertEqual([doubts, chosen.doubts], [[], [(GO,)]])

    def test_arguments_stay_as_they_are(self):
        costs = {"holds": 2, "joint": 1}
        choose(DOC_SITE, (), ("joint", "holds"), costs)
        self.assertEqual(list(costs.items()), [("holds", 2), ("joint", 1)])

    def test_results_are_new(self):
        field = (HARM_SITE, HARM_FIXED, HARM_FREE)
        for call in (breaches, rescues):
            first = call(*field)
            kept = list(first)
            first.clear()
            self.assertEqual(call(*field), kept)


class Errors(unittest.TestCase):
    def calls(self, costs):
        return (
            family, breaches, rescues, lambda *field: choose(*field, costs), Family([], []).shows,
            lambda *field: Chosen(None, []).shows(*field, costs),
        )

    def refused(self, error, *field, costs=None):
        for call in self.calls(costs):
            with self.assertRaises(error):
                call(*field)

    def test_sites_come_first(self):
        for value in NOT_SITES:
            for fixed, free in (((), ()), (None, None)):
                for call in self.calls({}):
                    with self.assertRaises(BadSite) as caught:
                        call(value, fixed, free)
                    self.assertIsNone(caught.exception.part)

    def test_fields_come_next(self):
        for value in NOT_SETS:
            for costs in (None, {}, {"joint": 1}):
                self.refused(BadField, DOC_SITE, value, (), costs=costs)
                self.refused(BadField, DOC_SITE, value, value, costs=costs)
                self.refused(BadField, DOC_SITE, (), value, costs=costs)
                self.refused(BadField, DOC_SITE, ("names",), value, costs=costs)

    def test_at_most_three_free_cares(self):
        for free in (ALL_CARES[:4], ALL_CARES, EIGHT, ALL_CARES[5:]):
            self.refused(BadField, DOC_SITE, (), free)
        self.assertEqual(family(DOC_SITE, ("joint",), ALL_CARES[6:]).sets, sets_of(ALL_CARES[6:]))

    def test_free_cares_are_not_fixed(self):
        for fixed, free in (
            (("joint",), ("joint",)), (("joint", "names"), ("names", "holds")), (ALL_CARES, ("holds",)), (EIGHT, EIGHT[:3]),
        ):
            self.refused(BadField, DOC_SITE, fixed, free)
            self.refused(BadField, DOC_SITE, fixed, free, costs={care: 1 for care in free})

    def test_all_cares_may_be_fixed(self):
        self.assertEqual(family(DOC_SITE, ALL_CARES, ()), Family([()], []))
        self.assertEqual(family(DOC_SITE, EIGHT, ("holds",)), Family([(), ("holds",)], []))

    def test_costs(self):
        free = ("joint", "holds")
        for value in NOT_COSTS:
            for call in (choose, Chosen(("joint",), [(GO,)]).shows):
                with self.assertRaises(BadCosts):
                    call(DOC_SITE, ("covers",), free, value)
        for costs in ({"joint": 0, "holds": 99}, {"holds": 0, "joint": 99}):
            self.assertEqual(choose(DOC_SITE, ("covers",), free, costs), Chosen(("joint",), [(GO,)]))
        for value in (None, {"joint": 1}, [], 0):
            with self.assertRaises(BadCosts):
                choose(DOC_SITE, ("covers",), (), value)

    def test_nothing_is_decided_before_the_arguments_are_checked(self):
        with mock.patch.object(fields, "explore", side_effect=AssertionError), \
                mock.patch.object(fields, "is_safe", side_effect=AssertionError):
            with self.assertRaises(BadCosts):
                choose(DOC_SITE, (), ("joint",), {"joint": 100})
            with self.assertRaises(BadCosts):
                Chosen(None, [(GO,)]).shows(DOC_SITE, (), ("joint",), {"joint": True})


if __name__ == "__main__":
    unittest.main()
