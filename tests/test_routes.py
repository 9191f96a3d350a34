"""Point [12] and framehistory/routes.py."""

import itertools
import random
import unittest
from unittest import mock

from framehistory import searches
from framehistory.deciding import run
from framehistory.errors import BadAddress, BadMachine, BadPath, BadWords, TooLarge
from framehistory.machines import Machine
from framehistory.routes import WORDS, NoRoute, Route, route
from framehistory.sites import ALL_CARES, Site
from framehistory.states import machine_at, state
from tests.makers import Anything, any_cares, any_deed, any_site
from tests.searching import Spots
from tests.test_deciding import BIG
from tests.test_deeds import NOT_SITES

X, Y = ("x",), ("y",)
DOC_SITE = Site({"a": (("x", "b"),), "b": (), "c": ()}, {"a": ("c",), "b": ("c",), "c": ()}, "a")
# From a to b, to c, to d, and back to a: what cannot be reached by a link is reached by back and next.
RING = Site(
    {"a": (), "b": (), "c": (), "d": ()}, {"a": ("b",), "b": ("c",), "c": ("d",), "d": ("a",)}, "a", cap=4,
)
RICH = Site(
    {"a": (("x", "b"), ("y", "c")), "b": (), "c": (), "d": ()},
    {"a": ("d",), "b": ("c",), "c": ("b",), "d": ("a",)}, "a", cap=2, pushes=("b",), drops=True, clears=True, reopens=True,
)
NESTED = Site(
    {"a": (("x", "b"),), "b": (("y", "c"),), "c": (), "d": ()}, {"a": ("d",), "b": (), "c": ("d",), "d": ("a",)}, "a",
    drops=True, reopens=True,
)
NOT_MACHINES = NOT_SITES + (BIG, Machine, state(Machine(BIG)), Route((), {}))
NOT_PATHS = (
    None, 0, True, "", "x", "/x", [], ["x"], {}, object(), ("q",), ("x", "q"), ("x", "x", "x"), (1,), (None,), (True,),
    ([],), ("",), (("x",),), ("a",), ("X",), Anything(), (Anything(),),
)
NOT_ADDRESSES = (None, 0, True, "", "x", "q", "A", "aa", ["a"], ("a",), [], {}, object(), b"a", Anything())
NOT_WORDS = (
    None, 0, True, "", "go", {"go"}, {"go": 1}, object(), range(0), (word for word in ("go",)), Anything(), ["Go"],
    ("go", "forward"), [None], [1], [True], [["go"]], [("go",)], [("back",)], ["go", ""], [b"go"], [Anything()], ["go", {}],
)


def moved(site, *deeds, cares=ALL_CARES[:8]):
    return run(site, cares, deeds)


def spot(machine):
    return state(machine)[:2]


class Searching(unittest.TestCase):
    """A route that is found is as it should be, by the second reading of the document."""

    def check(self, machine, path, address, words=WORDS):
        found = route(machine, path, address, words=words)
        second = Spots(machine.site, machine.past, path, address, words)
        self.assertIs(found.shows(machine, path, address, words=words), True)
        if not second.goals:
            self.assertIsInstance(found, NoRoute)
            self.assertEqual(set(found.spots), set(second.distances))
            return found
        self.assertIsInstance(found, Route)
        self.assertIsInstance(found.deeds, tuple)
        self.assertEqual(len(found.deeds), min(second.goals.values()))
        self.assertTrue(all(deed[0] in words for deed in found.deeds))
        self.assertEqual(found.floors[spot(machine)], len(found.deeds))
        for known, floor in found.floors.items():
            if known in second.goals:
                self.assertLessEqual(floor, 0)
        return found

    def test_words(self):
        self.assertEqual(WORDS, ("go", "push", "back", "next", "drop", "clear", "reopen"))

    def test_the_document(self):
        machine = moved(DOC_SITE, ("go", (), "c"), cares=())
        self.assertEqual(self.check(machine, X, "c").deeds, (("back",), ("go", X, "c")))
        self.assertEqual(len(self.check(machine, X, "c", ["back", "next"]).spots), 2)
        self.assertEqual(self.check(machine, (), "a", ["back"]).deeds, (("back",),))

    def test_reached_already(self):
        for words in (WORDS, [], (), ["back"], ["go", "go"]):
            machine = moved(DOC_SITE)
            for path, address in (((), "a"), (X, "b")):
                found = self.check(machine, path, address, words)
                self.assertEqual(found.deeds, ())
                self.assertEqual(found.floors[spot(machine)], 0)
                self.assertTrue(Route((), {spot(machine): 0}).shows(machine, path, address, words=words))

    def test_after_several_deeds(self):
        machine = moved(RING)
        self.assertEqual(self.check(machine, (), "d").deeds, tuple(("go", (), address) for address in "bcd"))
        machine = moved(RING, ("go", (), "b"), ("go", (), "c"), ("go", (), "d"))
        self.assertEqual(self.check(machine, (), "a").deeds, (("go", (), "a"),))
        self.assertEqual(self.check(machine, (), "a", ["back", "next"]).deeds, (("back",),) * 3)
        self.assertEqual(self.check(machine, (), "b", ["back"]).deeds, (("back",),) * 2)
        self.assertEqual(len(self.check(machine, (), "b").deeds), 2)
        self.assertEqual(len(self.check(machine, (), "b", ["go"]).deeds), 2)

    def test_never_reached(self):
        machine = moved(RING)
        for words in (["back"], ["next", "back", "push", "drop", "clear", "reopen"], []):
            found = self.check(machine, (), "b", words)
            self.assertEqual(found, NoRoute([spot(machine)]))
        site = Site({"a": (("x", "b"),), "b": ()}, {"a": ("b",), "b": ()}, "a")
        self.assertEqual(len(self.check(moved(site), X, "a").spots), 3)
        self.assertIsInstance(self.check(moved(site), ("x", "x"), "a"), NoRoute)

    def test_each_subset_of_words(self):
        machine = moved(RICH, ("drop", Y), ("go", (), "d"))
        kinds = set()
        for many in range(8):
            for words in itertools.combinations(WORDS, many):
                if "push" in words and "go" in words:
                    continue
                for path, address in ((Y, "c"), (X, "c"), ((), "a")):
                    found = self.check(machine, path, address, list(reversed(words)))
                    kinds.add((path, address, found.__class__, len(getattr(found, "deeds", ()))))
        self.assertGreater(len(kinds), 6)

    def test_what_each_word_does(self):
        self.assertEqual(self.check(moved(RICH), X, "c", ["go"]).deeds, (("go", X, "c"),))
        self.assertIsInstance(self.check(moved(RICH), X, "c", WORDS[1:]), NoRoute)
        machine = moved(RICH, ("go", X, "c"), ("back",))
        self.assertEqual(self.check(machine, X, "c", ["next"]).deeds, (("next",),))
        machine = moved(RICH, ("drop", X))
        self.assertEqual(self.check(machine, X, "b", ["reopen"]).deeds, (("reopen",),))
        self.assertIsInstance(self.check(machine, X, "b", ["clear", "back", "next"]), NoRoute)
        machine = moved(RICH, ("drop", X), ("go", (), "d"))
        self.assertIsInstance(self.check(machine, X, "b", ["back"]), NoRoute)
        self.assertEqual(self.check(machine, X, "b", ["back", "clear"]).deeds, (("clear",), ("back",)))
        self.assertEqual(len(self.check(machine, X, "b", ["back", "reopen"]).deeds), 2)
        # Dropping merges steps: fewer steps back to the one before them.
        machine = moved(
            Site(RICH.frames, RICH.links, "d", cap=4, pushes=("b",), drops=True),
            ("go", (), "a"), ("push", X), ("push", X),
        )
        self.assertEqual(len(self.check(machine, (), "d", ["back"]).deeds), 3)
        self.assertEqual(len(self.check(machine, (), "d", ["back", "drop"]).deeds), 2)
        machine = moved(RICH)
        self.assertEqual(self.check(machine, Y, "b", ["push", "go"]).deeds, (("go", Y, "b"),))
        self.assertEqual(len(self.check(machine, Y, "b", ["push", "back", "next"]).spots), 5)

    def test_nested(self):
        machine = moved(NESTED)
        self.assertEqual(self.check(machine, ("x", "y"), "d").deeds, (("go", ("x", "y"), "d"),))
        self.assertEqual(self.check(machine, ("x", "y"), "c").deeds, ())
        machine.do(("drop", ("x", "y")))
        self.assertEqual(self.check(machine, ("x", "y"), "d").deeds, (("reopen",), ("go", ("x", "y"), "d")))
        self.assertEqual(len(self.check(machine, ("x", "y"), "d", ["go"]).deeds), 3)

    def test_any_sites(self):
        kinds = {}
        for seed in range(400):
            chance = random.Random(seed)
            site = any_site(chance)
            machine = Machine(site, cares=any_cares(chance))
            for _ in range(chance.randint(0, 6)):
                deeds = [deed for deed in machine.possible() if machine.copy().do(deed) is None]
                if deeds:
                    machine.do(any_deed(chance, deeds))
            words = chance.sample(WORDS, chance.choice([1, 2, 3, 5, 7]))
            names = sorted({name for rows in site.frames.values() for name, _ in rows})
            path = tuple(chance.choice(names) for _ in range(chance.randint(0, 2))) if names else ()
            address = chance.choice(sorted(site.frames))
            # The second reading is slow, so there are fewer spots that can be gone through.
            second = Spots(site, machine.past, path, address, words, most=100)
            with mock.patch.object(searches, "LIMIT", 100):
                if not second.goals and not second.complete:
                    with self.assertRaises(TooLarge):
                        route(machine, path, address, words=words)
                    continue
                found = self.check(machine, path, address, words)
            kind = (found.__class__, len(getattr(found, "deeds", ())))
            kinds[kind] = kinds.get(kind, 0) + 1
        self.assertGreater(kinds.get((NoRoute, 0), 0), 20)
        self.assertGreater(len(kinds), 3)


class ByTheRecordAlone(unittest.TestCase):
    def test_not_the_cares(self):
        for words in (WORDS, ["go", "back"], ["next"]):
            for path, address in ((X, "c"), ((), "c"), ((), "a"), (X, "a")):
                first = route(moved(DOC_SITE, ("go", (), "c")), path, address, words=words)
                for cares in ((), ("joint",), ALL_CARES):
                    machine = moved(DOC_SITE, ("go", (), "c"), cares=cares)
                    self.assertEqual(route(machine, path, address, words=words), first)
                    self.assertTrue(first.shows(machine, path, address, words=words))

    def test_deeds_that_would_fail(self):
        machine = moved(DOC_SITE, cares=())
        found = route(machine, X, "c")
        self.assertEqual(found.deeds, (("go", X, "c"),))
        self.assertTrue(found.shows(machine, X, "c"))
        self.assertEqual(machine.do(found.deeds[0]), ("steps", ()))

    def test_nothing_happens_to_the_machine(self):
        machine = moved(DOC_SITE, ("go", (), "c"))
        before = [state(machine), machine.past, list(machine.possible())]
        route(machine, X, "c").shows(machine, X, "c")
        route(machine, X, "a").shows(machine, X, "a")
        self.assertEqual([state(machine), machine.past, list(machine.possible())], before)
        machine.do(("back",))
        self.assertEqual(route(machine, X, "c").deeds, (("go", X, "c"),))

    def test_machines_at_a_state(self):
        machine = moved(NESTED, ("drop", ("x", "y")), ("go", (), "d"))
        other = machine_at(NESTED, ALL_CARES[:8], state(machine))
        for path, address in ((("x", "y"), "d"), (X, "b"), ((), "c")):
            self.assertEqual(route(machine, path, address), route(other, path, address))


class RouteShows(unittest.TestCase):
    def setUp(self):
        self.machine = moved(RING)
        self.found = route(self.machine, (), "d")
        self.first = spot(self.machine)
        self.deeds = self.found.deeds

    def shows(self, deeds, floors, path=(), address="d", words=WORDS):
        return Route(deeds, floors).shows(self.machine, path, address, words=words)

    def with_floor(self, known, floor):
        floors = dict(self.found.floors)
        floors[known] = floor
        return floors

    def test_as_found(self):
        self.assertIs(self.shows(self.deeds, self.found.floors), True)
        rows = list(self.found.floors.items())
        self.assertGreater(len(rows), 5)
        self.assertTrue(self.shows(self.deeds, dict(reversed(rows))))
        self.assertTrue(self.shows(self.deeds, dict(sorted(rows, key=repr))))

    def test_a_floor_too_great(self):
        changed = 0
        for known, floor in self.found.floors.items():
            if floor > 0:
                # Some spot that leads here or from here does not allow it; more than one less is never right.
                self.assertIs(self.shows(self.deeds, self.with_floor(known, floor + 4)), False)
                changed += 1
        self.assertGreater(changed, 2)
        self.assertFalse(self.shows(self.deeds, self.with_floor(self.first, 4)))

    def test_a_floor_too_small(self):
        self.assertIs(self.shows(self.deeds, self.with_floor(self.first, 2)), False)
        after = spot(moved(RING, ("go", (), "b")))
        self.assertEqual(self.found.floors[after], 2)
        self.assertTrue(self.shows(self.deeds, self.with_floor(after, 2)))
        self.assertFalse(self.shows(self.deeds, self.with_floor(after, 1)))
        self.assertFalse(self.shows(self.deeds, self.with_floor(after, -5)))

    def test_a_floor_is_missing(self):
        for known, floor in self.found.floors.items():
            floors = {other: many for other, many in self.found.floors.items() if other != known}
            self.assertIs(self.shows(self.deeds, floors), False, (known, floor))
        self.assertFalse(self.shows(self.deeds, {}))
        self.assertFalse(self.shows(self.deeds, {self.first: 3}))
        self.assertFalse(self.shows((), {}, address="a"))

    def test_a_goal_above_0(self):
        goal = spot(moved(RING, *self.deeds))
        self.assertEqual(self.found.floors[goal], 0)
        self.assertIs(self.shows(self.deeds, self.with_floor(goal, 1)), False)
        self.assertTrue(self.shows(self.deeds, self.with_floor(goal, 0)))
        self.assertFalse(self.shows((), {self.first: 1}, address="a"))

    def test_no_floor_below_one_less(self):
        # A goal may have a floor below 0, if no spot before it has one above 0.
        goal = spot(moved(RING, *self.deeds))
        self.assertFalse(self.shows(self.deeds, self.with_floor(goal, -1)))
        machine = moved(DOC_SITE)
        self.assertTrue(Route((), {spot(machine): 0, spot(moved(DOC_SITE, ("go", (), "c"))): -7}).shows(machine, (), "a"))

    def test_spots_that_the_machine_does_not_come_to(self):
        # Floors of other spots of the site must be right as well.
        site = Site({"a": (), "b": ()}, {"a": ("b",), "b": ("b",)}, "a", cap=2)
        machine = moved(site, ("go", (), "b"), ("go", (), "b"))
        found = route(machine, (), "b")
        start = spot(moved(site))
        self.assertNotIn(start, found.floors)
        for floor, right in ((0, True), (-3, True), (1, False), (2, False)):
            floors = {**found.floors, start: floor}
            self.assertIs(Route((), floors).shows(machine, (), "b"), right, floor)
        floors = {**found.floors, start: 1, spot(moved(site, ("go", (), "b"))): 0}
        self.assertTrue(Route((), floors).shows(machine, (), "b"))

    def test_greater_floors_further_on(self):
        # Nothing is possible where a push is all that is asked for: such a spot may have any floor.
        machine = moved(RING)
        other = spot(moved(RING, ("go", (), "b")))
        self.assertTrue(Route((), {spot(machine): 0, other: 99}).shows(machine, (), "a", words=["push"]))
        self.assertFalse(Route((), {spot(machine): 0, other: 99}).shows(machine, (), "a", words=["push", "back"]))
        goal = spot(moved(RING, ("go", (), "b"), ("back",)))
        self.assertFalse(Route((), {spot(machine): 0, goal: 99}).shows(machine, (), "a", words=["push"]))

    def test_a_longer_route(self):
        longer = (("go", (), "b"), ("back",), ("next",), ("go", (), "c"), ("go", (), "d"))
        self.assertIs(self.shows(longer, self.found.floors), False)
        self.assertFalse(self.shows(longer, self.with_floor(self.first, 5)))
        self.assertFalse(self.shows(self.deeds + (("back",), ("next",)), self.found.floors))
        goal = spot(moved(RING, *self.deeds))
        self.assertFalse(self.shows(longer, {key: 5 for key in self.found.floors if key != goal} | {goal: 0}))

    def test_another_route_of_the_same_length(self):
        machine = moved(DOC_SITE, ("go", X, "c"), ("go", (), "c"))
        found = route(machine, X, "b")
        self.assertEqual(len(found.deeds), 2)
        site = Site({"a": (), "b": (), "c": (), "d": ()}, {"a": ("b", "c"), "b": ("d",), "c": ("d",), "d": ()}, "a")
        machine = moved(site)
        found = route(machine, (), "d")
        for middle in "bc":
            deeds = (("go", (), middle), ("go", (), "d"))
            self.assertTrue(Route(deeds, found.floors).shows(machine, (), "d"))

    def test_a_deed_without_one_of_the_words(self):
        self.assertTrue(self.shows(self.deeds, self.found.floors, words=["go"]))
        self.assertFalse(self.shows(self.deeds, self.found.floors, words=["push", "back", "next"]))
        self.assertFalse(self.shows(self.deeds, self.found.floors, words=[]))
        machine = moved(RING, ("go", (), "b"), ("go", (), "c"), ("go", (), "d"))
        found = route(machine, (), "c")
        self.assertEqual(found.deeds, (("back",),))
        self.assertTrue(found.shows(machine, (), "c"))
        self.assertTrue(found.shows(machine, (), "c", words=["back"]))
        self.assertFalse(found.shows(machine, (), "c", words=["go", "next"]))

    def test_more_words_need_more_floors(self):
        machine = moved(RING, ("go", (), "b"), ("go", (), "c"), ("go", (), "d"))
        found = route(machine, (), "b", words=["go", "next"])
        self.assertEqual(len(found.deeds), 2)
        self.assertTrue(found.shows(machine, (), "b", words=("next", "go")))
        self.assertFalse(found.shows(machine, (), "b"))

    def test_a_deed_that_is_not_possible(self):
        wrong = (("go", (), "b"), ("go", (), "d"), ("go", (), "d"))
        self.assertIs(self.shows(wrong, self.found.floors), False)
        self.assertFalse(self.shows((("next",),) + self.deeds[1:], self.found.floors))
        self.assertFalse(self.shows((("push", ()),) + self.deeds[1:], self.found.floors))
        self.assertFalse(self.shows((("clear",),) + self.deeds[1:], self.found.floors))

    def test_a_route_elsewhere(self):
        wrong = (("go", (), "b"), ("go", (), "c"), ("back",))
        self.assertFalse(self.shows(wrong, self.found.floors))
        self.assertFalse(self.shows(self.deeds, self.found.floors, address="c"))
        self.assertFalse(self.shows((), {self.first: 0}))
        self.assertFalse(self.shows(self.deeds[:2], self.with_floor(self.first, 2)))

    def test_another_machine(self):
        machine = moved(RING, ("go", (), "b"))
        self.assertFalse(self.found.shows(machine, (), "d"))
        self.assertTrue(self.found.shows(moved(RING), (), "d"))

    def test_current_attributes(self):
        found = route(self.machine, (), "d")
        found.deeds = self.deeds[:2]
        self.assertFalse(found.shows(self.machine, (), "d"))
        found.deeds = self.deeds
        self.assertTrue(found.shows(self.machine, (), "d"))
        found.floors[self.first] = 2
        self.assertFalse(found.shows(self.machine, (), "d"))
        found.floors = {self.first: 3}
        self.assertFalse(found.shows(self.machine, (), "d"))


class NoRouteShows(unittest.TestCase):
    def setUp(self):
        self.site = Site({"a": (("x", "b"),), "b": ()}, {"a": ("b",), "b": ()}, "a", drops=True, reopens=True)
        self.machine = moved(self.site, ("go", (), "b"))
        self.spots = route(self.machine, X, "a").spots

    def shows(self, spots, path=X, address="a", words=WORDS):
        return NoRoute(spots).shows(self.machine, path, address, words=words)

    def test_as_found(self):
        self.assertIs(self.shows(self.spots), True)
        self.assertGreater(len(self.spots), 3)
        self.assertTrue(self.shows(list(reversed(self.spots))))
        self.assertTrue(self.shows(self.spots + self.spots))

    def test_a_spot_is_lacking(self):
        for index in range(len(self.spots)):
            self.assertIs(self.shows(self.spots[:index] + self.spots[index + 1:]), False)
        self.assertIs(self.shows([]), False)
        self.assertFalse(self.shows([spot(self.machine)]))

    def test_only_the_spot_of_the_machine_is_lacking(self):
        machine = moved(RING, ("go", (), "b"))
        found = route(machine, (), "d", words=["back"])
        self.assertEqual(len(found.spots), 2)
        left = [row for row in found.spots if row != spot(machine)]
        self.assertFalse(NoRoute(left).shows(machine, (), "d", words=["back"]))
        self.assertTrue(NoRoute(left).shows(moved(RING), (), "d", words=["back"]) is False)

    def test_a_goal_among_them(self):
        self.assertFalse(self.shows(self.spots, path=(), address="a"))
        self.assertFalse(self.shows(self.spots, path=X, address="b"))
        machine = moved(RING)
        self.assertFalse(NoRoute([spot(machine)]).shows(machine, (), "a", words=["back"]))
        goal = spot(moved(RING, ("go", (), "b")))
        self.assertTrue(NoRoute([spot(machine)]).shows(machine, (), "b", words=["push"]))
        self.assertFalse(NoRoute([spot(machine), goal]).shows(machine, (), "b", words=["push"]))

    def test_words(self):
        self.assertTrue(self.shows(self.spots, words=["back", "next"]))
        self.assertTrue(self.shows([spot(self.machine)], words=["push"]))
        self.assertFalse(self.shows([spot(self.machine)], words=["push", "back"]))
        self.assertFalse(self.shows([spot(self.machine)], words=["go", "back"]))

    def test_current_attribute(self):
        found = NoRoute(self.spots)
        found.spots.pop()
        self.assertFalse(found.shows(self.machine, X, "a"))
        found.spots = list(self.spots)
        self.assertTrue(found.shows(self.machine, X, "a"))


class Large(unittest.TestCase):
    def test_too_many_spots(self):
        machine = moved(BIG)
        with self.assertRaises(TooLarge):
            route(machine, ("x", "x"), "a")
        with self.assertRaises(TooLarge):
            route(moved(BIG, cares=()), ("x", "y"), "a")

    def test_near_goals_among_many_spots(self):
        machine = moved(BIG)
        found = route(machine, X, "c")
        self.assertEqual(len(found.deeds), 1)
        self.assertTrue(found.shows(machine, X, "c"))

    def test_the_layer_of_the_goal_may_be_too_large(self):
        # The goal is reached by 4 deeds; those of at most 3 lead to few spots, and those of 4 to more than 3000.
        site = Site(
            {"a": (("x", "b"), ("y", "b")), "b": (), "c": (), "d": ()},
            {"a": ("a", "c"), "b": ("b", "d"), "c": ("a", "c"), "d": ("b",)}, "c", cap=4, pushes=("a", "b", "c"),
        )
        machine = moved(site)
        found = route(machine, ("y",), "d")
        self.assertTrue(found.shows(machine, ("y",), "d"))
        many = len([floor for floor in found.floors.values() if floor > 0])
        self.assertGreater(len(found.floors), many)
        with mock.patch.object(searches, "LIMIT", many):
            self.assertEqual(route(machine, ("y",), "d"), found)
        with mock.patch.object(searches, "LIMIT", many - 1):
            with self.assertRaises(TooLarge):
                route(machine, ("y",), "d")

    def test_the_limit_itself(self):
        machine = moved(DOC_SITE)
        many = len(route(machine, X, "a").spots)
        with mock.patch.object(searches, "LIMIT", many):
            self.assertEqual(len(route(machine, X, "a").spots), many)
        with mock.patch.object(searches, "LIMIT", many - 1):
            with self.assertRaises(TooLarge):
                route(machine, X, "a")

    def test_as_many_spots_as_there_may_be(self):
        site = Site(
            {"a": (("x", "b"),), "b": (), "c": ()}, {"a": ("b", "c"), "b": ("a",), "c": ("a", "b")}, "a", cap=4,
            pushes=("a",), reopens=True,
        )
        words = ["go", "push", "back", "next", "clear", "reopen"]
        found = route(moved(site), ("x", "x"), "c", words=words)
        self.assertEqual(len(found.spots), 3000)
        self.assertTrue(found.shows(moved(site), ("x", "x"), "c", words=words))

    def test_one_spot_too_many(self):
        site = Site(
            {"a": (("x", "b"),), "b": (), "c": ()}, {"a": ("a", "b"), "b": ("a", "b", "c"), "c": ("a", "c")}, "a",
            pushes=("a", "c"),
        )
        goal = (("x", "x"), "a")
        with self.assertRaises(TooLarge):
            route(moved(site), *goal)
        with mock.patch.object(searches, "LIMIT", 3001):
            self.assertEqual(len(route(moved(site), *goal).spots), 3001)

    def test_shows_has_no_limit(self):
        machine = moved(DOC_SITE)
        near, none = route(machine, X, "c"), route(machine, X, "a")
        with mock.patch.object(searches, "LIMIT", 0):
            self.assertTrue(near.shows(machine, X, "c"))
            self.assertTrue(none.shows(machine, X, "a"))
            with self.assertRaises(TooLarge):
                route(machine, X, "c")
            self.assertEqual(route(machine, X, "b").deeds, ())


class Errors(unittest.TestCase):
    def calls(self):
        return (route, Route((), {}).shows, NoRoute([]).shows)

    def check(self, error, *values, words=WORDS):
        for call in self.calls():
            with self.assertRaises(error):
                call(*values, words=words)

    def test_machines_come_first(self):
        failed = Machine(DOC_SITE, cares=())
        failed.do(("go", X, "c"))
        for value in NOT_MACHINES + (failed,):
            self.check(BadMachine, value, (), "a")
            self.check(BadMachine, value, None, None, words=None)

    def test_then_paths(self):
        machine = moved(DOC_SITE)
        for value in NOT_PATHS:
            self.check(BadPath, machine, value, "a")
            self.check(BadPath, machine, value, None, words=None)

    def test_then_addresses(self):
        machine = moved(DOC_SITE)
        for value in NOT_ADDRESSES:
            for path in ((), X, ("x", "x")):
                self.check(BadAddress, machine, path, value)
                self.check(BadAddress, machine, path, value, words=None)

    def test_then_words(self):
        for machine in (moved(DOC_SITE), moved(BIG)):
            for value in NOT_WORDS:
                self.check(BadWords, machine, ("x", "x"), "a", words=value)

    def test_paths_of_the_site(self):
        machine = moved(RICH)
        for path in ((), X, Y, ("x", "y"), ("y", "y")):
            self.assertIsInstance(route(machine, path, "d", words=["back"]), NoRoute)
        for path in (("z",), ("x", "z"), ("x", "y", "x")):
            self.check(BadPath, machine, path, "d")

    def test_words_may_be_repeated(self):
        machine = moved(DOC_SITE, ("go", (), "c"))
        found = route(machine, (), "a", words=["back", "back", "go", "back"])
        self.assertEqual(found.deeds, (("back",),))
        self.assertTrue(found.shows(machine, (), "a", words=("back", "back", "go")))


class Equality(unittest.TestCase):
    def test_routes(self):
        machine = moved(DOC_SITE)
        found = route(machine, X, "c")
        self.assertEqual(found, Route(found.deeds, dict(reversed(list(found.floors.items())))))
        self.assertFalse(found != Route(found.deeds, found.floors))
        self.assertNotEqual(found, Route((), found.floors))
        self.assertNotEqual(found, Route(found.deeds, {}))
        self.assertNotEqual(found, Route(found.deeds, {**found.floors, spot(machine): 2}))

    def test_no_routes(self):
        spots = route(moved(DOC_SITE), X, "a").spots
        self.assertEqual(NoRoute(spots), NoRoute(list(spots)))
        self.assertNotEqual(NoRoute(spots), NoRoute(spots[1:]))
        self.assertNotEqual(NoRoute(spots), NoRoute(list(reversed(spots))))

    def test_other_classes(self):
        for value in (None, [], (), {}, 0):
            self.assertNotEqual(Route((), {}), value)
            self.assertNotEqual(NoRoute([]), value)
        self.assertFalse(Route((), {}) == NoRoute([]))
        self.assertTrue(NoRoute([]) != Route((), {}))


class Copies(unittest.TestCase):
    def test_dicts_and_lists_are_copied(self):
        machine = moved(DOC_SITE)
        found, none = route(machine, X, "c"), route(machine, X, "a")
        floors, spots = dict(found.floors), list(none.spots)
        first, second = Route(found.deeds, floors), NoRoute(spots)
        floors.clear()
        spots.clear()
        self.assertEqual([first, second], [found, none])

    def test_results_are_new(self):
        machine = moved(DOC_SITE)
        first = route(machine, X, "c")
        first.floors.clear()
        self.assertTrue(route(machine, X, "c").shows(machine, X, "c"))
        none = route(machine, X, "a")
        none.spots.clear()
        self.assertTrue(route(machine, X, "a").shows(machine, X, "a"))

    def test_words_stay_as_they_are(self):
        machine, words = moved(DOC_SITE), ["next", "go", "back"]
        route(machine, X, "c", words=words).shows(machine, X, "c", words=words)
        self.assertEqual(words, ["next", "go", "back"])

    def test_shows_changes_nothing(self):
        machine = moved(DOC_SITE)
        found = route(machine, X, "c")
        deeds, floors = found.deeds, dict(found.floors)
        found.shows(machine, X, "c")
        self.assertEqual([found.deeds, found.floors, list(found.floors)], [deeds, floors, list(floors)])


if __name__ == "__main__":
    unittest.main()
