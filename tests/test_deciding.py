"""Point [10] and framehistory/deciding.py."""

import random
import unittest
from unittest import mock

from framehistory import searches
from framehistory.deciding import Fails, Safe, count_states, decide, is_safe, run
from framehistory.errors import BadCares, BadHistory, BadSite, TooLarge
from framehistory.machines import Machine
from framehistory.sites import ALL_CARES, Site
from framehistory.states import state
from tests.makers import Anything, any_cares, any_site
from tests.searching import States, failure_of
from tests.test_deeds import NOT_DEEDS, NOT_SITES
from tests.test_machines import NOT_CARES

EIGHT = ALL_CARES[:8]
NOT_JOINT = EIGHT[1:]
NOT_COVERS = tuple(care for care in EIGHT if care != "covers")
GO = ("go", ("x",), "b")
SITE = Site({"a": (("x", "b"),), "b": ()}, {"a": (), "b": ("b",)}, "a", cap=2)
DOC_SITE = Site({"a": (("x", "b"),), "b": (), "c": ()}, {"a": ("c",), "b": ("c",), "c": ()}, "a", clears=True)
DOC_HISTORY = (("go", ("x",), "c"), ("go", (), "c"), ("clear",), ("back",))
# With all cares but one, the failing care for each site and its shortest failing history.
FAULTS = (
    ("joint", Site({"a": (), "b": (("y", "a"),)}, {"a": ("b",), "b": ()}, "b"), (("go", ("y",), "b"),), None),
    (
        "joint", Site({"a": (), "b": (("y", "a"),)}, {"a": ("a",), "b": ()}, "b"), (("go", ("y",), "a"),), ("steps", ()),
    ),
    (
        "prunes", Site({"a": (), "b": (("y", "a"),)}, {"a": (), "b": ()}, "b", pushes=("a", "b")),
        (("push", ()), ("back",), ("push", ("y",))), ("shown", ()),
    ),
    (
        "nests", Site({"a": (), "b": (("y", "a"),)}, {"a": (), "b": ()}, "b", pushes=("a",), reopens=True),
        (("push", ("y",)), ("reopen",)), ("shown", ("y",)),
    ),
    (
        "names", Site(
            {"a": (), "b": (("x", "a"), ("z", "a"))}, {"a": (), "b": ()}, "b", pushes=("a",), drops=True, reopens=True,
        ),
        (("push", ("z",)), ("drop", ("x",)), ("reopen",)), ("shown", ("x",)),
    ),
    ("states", Site({"a": ()}, {"a": ()}, "a", pushes=("a",), reopens=True), (("push", ()), ("reopen",)), ("shown", ())),
    (
        "merges", Site({"a": (), "b": (("y", "a"),)}, {"a": (), "b": ()}, "b", pushes=("a",), drops=True),
        (("push", ("y",)), ("drop", ("y",))), ("steps", ()),
    ),
    (
        "covers", Site({"a": (), "b": (("y", "a"),)}, {"a": (), "b": ()}, "b", cap=2, pushes=("a", "b")),
        (("push", ()), ("push", ("y",)), ("back",)), ("shown", ("y",)),
    ),
    (
        "shares", Site({"a": (), "b": (("y", "a"),)}, {"a": (), "b": ()}, "b", pushes=("a", "b")),
        (("push", ("y",)), ("push", ())), ("shown", ("y",)),
    ),
)
# No history fails with the first eight cares; there are more than 3000 states.
BIG = Site(
    {"a": (("x", "b"), ("y", "b")), "b": (), "c": (), "d": ()},
    {"a": ("a", "b", "c", "d"), "b": ("a", "b", "c", "d"), "c": ("a", "b"), "d": ("a",)}, "a",
    cap=4, pushes=("a", "b"), drops=True, clears=True, reopens=True,
)
# Without covers, histories of 5 deeds fail; those of at most 4 lead to 3052 states.
LATE = Site(
    {"a": (("x", "b"),), "b": (), "c": (), "d": ()},
    {"a": ("a", "b", "c", "d"), "b": ("a", "b", "c"), "c": (), "d": ("a", "b", "c", "d")}, "a",
    cap=4, pushes=("b",), clears=True, reopens=True,
)
# Without covers, histories of 5 deeds fail; those of at most 4 lead to 1907 states, and others of 5 to 3740 more.
SOON = Site(
    {"a": (("x", "b"),), "b": (), "c": (), "d": ()},
    {"a": ("a", "b", "c", "d"), "b": ("a", "b", "c"), "c": (), "d": ("d",)}, "a", cap=4, drops=True, reopens=True,
)


def without(care):
    return tuple(other for other in EIGHT if other != care)


def errors_of(call, *values):
    """Return the kind and the attributes of the error that a call raises, or what it returns."""
    try:
        return call(*values)
    except Exception as error:
        return (error.__class__, vars(error))


class Deciding(unittest.TestCase):
    def test_the_document(self):
        self.assertEqual(decide(DOC_SITE, ALL_CARES[:2]).__class__, Fails)
        self.assertEqual(decide(DOC_SITE, ALL_CARES).__class__, Safe)
        self.assertEqual([is_safe(DOC_SITE, ALL_CARES[:2]), is_safe(DOC_SITE, ALL_CARES)], [False, True])

    def test_small(self):
        # One step; two of them, at the first or the second; two of which the first one is not the home.
        found = decide(SITE, EIGHT)
        self.assertIsInstance(found, Safe)
        self.assertIsInstance(found.states, list)
        self.assertEqual([len(found.states), count_states(SITE, EIGHT), is_safe(SITE, EIGHT)], [5, 5, True])
        self.assertEqual(decide(SITE, ()), Fails((GO,)))
        self.assertEqual([count_states(SITE, ()), is_safe(SITE, ())], [0, False])

    def test_one_state(self):
        site = Site({"a": ()}, {"a": ()}, "a")
        for cares in ((), ALL_CARES):
            self.assertEqual(decide(site, cares), Safe([state(Machine(site))]))
            self.assertEqual([count_states(site, cares), is_safe(site, cares)], [1, True])
            self.assertTrue(decide(site, cares).shows(site, cares))

    def test_each_care_is_needed_somewhere(self):
        for care, site, history, failure in FAULTS:
            cares = without(care)
            found = decide(site, cares)
            self.assertIsInstance(found, Fails, care)
            self.assertIsInstance(found.history, tuple)
            self.assertEqual(len(found.history), len(history), care)
            self.assertTrue(found.shows(site, cares))
            self.assertTrue(Fails(history).shows(site, cares), care)
            self.assertFalse(Fails(history).shows(site, EIGHT))
            if failure is not None:
                self.assertEqual(run(site, cares, history).failure, failure)
            self.assertEqual([is_safe(site, cares), count_states(site, cares)], [False, 0])
            self.assertEqual([is_safe(site, EIGHT), count_states(site, EIGHT) > 0], [True, True])
            safe = decide(site, EIGHT)
            self.assertTrue(safe.shows(site, EIGHT))
            self.assertFalse(safe.shows(site, cares))

    def test_holds_can_fail(self):
        site = Site(
            {"a": (("y", "c"),), "c": (), "d": ()}, {"a": ("d",), "c": (), "d": ()}, "a", drops=True, clears=True,
        )
        history = (("drop", ("y",)), ("go", (), "d"), ("clear",), ("back",))
        self.assertTrue(Fails(history).shows(site, ALL_CARES))
        self.assertFalse(Fails(history).shows(site, EIGHT))
        self.assertEqual(len(decide(site, ALL_CARES).history), 4)
        self.assertIsInstance(decide(site, EIGHT), Safe)

    def test_cares_in_any_order(self):
        for cares in (list(EIGHT), list(reversed(EIGHT)), tuple(reversed(EIGHT))):
            self.assertEqual(count_states(DOC_SITE, cares), count_states(DOC_SITE, EIGHT))
            self.assertTrue(is_safe(DOC_SITE, cares))
            self.assertTrue(decide(DOC_SITE, cares).shows(DOC_SITE, cares))
            self.assertTrue(decide(DOC_SITE, EIGHT).shows(DOC_SITE, cares))

    def test_against_reading(self):
        kinds = {Safe: 0, Fails: 0, TooLarge: 0}
        for seed in range(200):
            chance = random.Random(seed)
            site, cares = any_site(chance), any_cares(chance)
            # The second reading is slow, so there are fewer states that can be gone through.
            second = States(site, cares, most=60)
            with mock.patch.object(searches, "LIMIT", 60):
                kind = self.check(site, cares, second)
            kinds[kind] += 1
        self.assertGreater(min(kinds.values()), 30)

    def check(self, site, cares, second):
        if second.failing is None and not second.complete:
            for call in (decide, is_safe, count_states):
                self.assertEqual(errors_of(call, site, cares), (TooLarge, {}))
            return TooLarge
        found, many = decide(site, cares), count_states(site, cares)
        self.assertEqual(is_safe(site, cares), second.failing is None)
        self.assertIs(found.shows(site, cares), True)
        if second.failing is None:
            self.assertEqual([found.__class__, many], [Safe, len(second.lengths)])
            self.assertEqual(set(found.states), set(second.lengths))
        else:
            self.assertEqual([found.__class__, many], [Fails, 0])
            self.assertNotIn(failure_of(site, cares, found.history), (None, "no"))
            self.assertTrue(Fails(second.failing).shows(site, cares))
        return found.__class__


class Large(unittest.TestCase):
    def check_too_large(self, site, cares):
        for call in (decide, is_safe, count_states):
            with self.assertRaises(TooLarge):
                call(site, cares)

    def test_too_many_states(self):
        self.check_too_large(BIG, EIGHT)

    def test_a_short_history_fails_although_there_are_many_states(self):
        found = decide(BIG, NOT_JOINT)
        self.assertEqual(len(found.history), 1)
        self.assertTrue(found.shows(BIG, NOT_JOINT))
        self.assertEqual([is_safe(BIG, NOT_JOINT), count_states(BIG, NOT_JOINT)], [False, 0])

    def test_too_many_states_before_a_history_fails(self):
        self.check_too_large(LATE, NOT_COVERS)
        history = (("go", (), "a"),) * 3 + (("go", ("x",), "c"), ("back",))
        self.assertTrue(Fails(history).shows(LATE, NOT_COVERS))

    def test_too_many_states_only_with_the_histories_that_are_as_long_as_one_that_fails(self):
        found = decide(SOON, NOT_COVERS)
        self.assertEqual(len(found.history), 5)
        self.assertTrue(found.shows(SOON, NOT_COVERS))
        self.assertEqual([is_safe(SOON, NOT_COVERS), count_states(SOON, NOT_COVERS)], [False, 0])

    def test_the_limit_itself(self):
        self.assertEqual(searches.LIMIT, 3000)
        many = count_states(DOC_SITE, EIGHT)
        with mock.patch.object(searches, "LIMIT", many):
            self.assertEqual(count_states(DOC_SITE, EIGHT), many)
        with mock.patch.object(searches, "LIMIT", many - 1):
            self.check_too_large(DOC_SITE, EIGHT)

    def test_one_state_too_many(self):
        site = Site(
            {"a": (("x", "b"), ("y", "b")), "b": ()}, {"a": ("a",), "b": ("b",)}, "a", pushes=("a", "b"), clears=True,
        )
        cares = ("joint", "prunes", "nests", "names", "merges", "covers", "shares", "holds")
        self.check_too_large(site, cares)
        with mock.patch.object(searches, "LIMIT", 3001):
            self.assertEqual(count_states(site, cares), 3001)

    def test_shows_has_no_limit(self):
        # More than 3000 states, found with the limit out of the way.
        with mock.patch.object(searches, "LIMIT", 10000):
            site = Site(
                {"a": (("x", "b"),), "b": ()}, {"a": ("a", "b"), "b": ("a",)}, "a", cap=4, drops=True,
            )
            states = decide(site, EIGHT).states
        self.assertEqual(len(states), 3021)
        self.check_too_large(site, EIGHT)
        self.assertTrue(Safe(states).shows(site, EIGHT))
        self.assertFalse(Safe(states[:-1]).shows(site, EIGHT))


class SafeShows(unittest.TestCase):
    def setUp(self):
        self.states = decide(DOC_SITE, EIGHT).states

    def shows(self, states, cares=EIGHT):
        return Safe(states).shows(DOC_SITE, cares)

    def test_as_found(self):
        self.assertIs(self.shows(self.states), True)
        self.assertGreater(len(self.states), 10)

    def test_a_state_is_lacking(self):
        first = self.states.index(state(Machine(DOC_SITE)))
        for index in range(len(self.states)):
            self.assertIs(self.shows(self.states[:index] + self.states[index + 1:]), False)
        self.assertFalse(self.shows(self.states[:first] + self.states[first + 1:]))
        self.assertFalse(self.shows([self.states[first]]))

    def test_only_the_beginning_is_lacking(self):
        # Nothing leads back to the beginning: what is left is closed, but it is not where histories begin.
        site = Site({"a": ()}, {"a": ()}, "a", cap=2, pushes=("a",))
        states = decide(site, EIGHT).states
        first = state(Machine(site))
        left = [row for row in states if row != first]
        self.assertEqual(len(left), len(states) - 1)
        self.assertFalse(Safe(left).shows(site, EIGHT))
        self.assertTrue(Safe(left + [first]).shows(site, EIGHT))

    def test_twice_and_in_another_order(self):
        self.assertTrue(self.shows(self.states + self.states))
        self.assertTrue(self.shows(self.states + self.states[3:5]))
        self.assertTrue(self.shows(list(reversed(self.states))))
        self.assertTrue(self.shows(self.states[7:] + self.states[:7]))
        self.assertFalse(self.shows(self.states[1:] + self.states[1:2]))

    def test_empty(self):
        self.assertIs(self.shows([]), False)

    def test_other_cares(self):
        # Without nests, a history fails. With holds, no document is ever thrown away: fewer states are enough,
        # which clear leaves without it; more states are right too.
        cares = ("joint", "prunes", "covers", "shares")
        self.assertFalse(is_safe(DOC_SITE, cares))
        self.assertFalse(self.shows(self.states, cares))
        fewer = decide(DOC_SITE, ALL_CARES).states
        self.assertLess(len(fewer), len(self.states))
        self.assertTrue(self.shows(fewer, ALL_CARES))
        self.assertFalse(self.shows(fewer))

    def test_same_states_other_cares(self):
        # Without deeds that need them, all cares but joint do not matter here.
        states = decide(SITE, EIGHT).states
        for cares in (("joint", "prunes", "covers"), ALL_CARES, ["covers", "prunes", "joint"]):
            self.assertTrue(Safe(states).shows(SITE, cares))
        for cares in ((), NOT_JOINT, ("prunes", "covers")):
            self.assertFalse(Safe(states).shows(SITE, cares))

    def test_states_of_a_site_with_cares_that_fail(self):
        machine = Machine(SITE, cares=())
        self.assertFalse(Safe([state(machine)]).shows(SITE, ()))

    def test_current_attribute(self):
        found = Safe(self.states)
        found.states.pop()
        self.assertFalse(found.shows(DOC_SITE, EIGHT))
        found.states = list(self.states)
        self.assertTrue(found.shows(DOC_SITE, EIGHT))
        found.states = []
        self.assertFalse(found.shows(DOC_SITE, EIGHT))

    def test_nothing_changes(self):
        found = Safe(self.states)
        cares = list(EIGHT)
        self.assertTrue(found.shows(DOC_SITE, cares))
        self.assertEqual([found.states, cares], [self.states, list(EIGHT)])


class FailsShows(unittest.TestCase):
    def shows(self, history, cares=ALL_CARES[:2]):
        return Fails(history).shows(DOC_SITE, cares)

    def test_as_in_the_document(self):
        self.assertIs(self.shows(DOC_HISTORY), True)
        self.assertIs(self.shows(DOC_HISTORY, ALL_CARES[:3]), False)
        self.assertFalse(self.shows(DOC_HISTORY, EIGHT))

    def test_empty(self):
        for cares in ((), EIGHT, ALL_CARES):
            self.assertIs(self.shows((), cares), False)

    def test_the_last_deed_does_not_fail(self):
        for many in range(1, 4):
            self.assertIs(self.shows(DOC_HISTORY[:many]), False)

    def test_it_fails_before_its_last_deed(self):
        for deed in (("next",), ("back",), ("clear",), DOC_HISTORY[0]):
            self.assertIs(self.shows(DOC_HISTORY + (deed,)), False)
        self.assertFalse(self.shows(DOC_HISTORY + DOC_HISTORY))

    def test_a_deed_is_not_possible(self):
        self.assertIs(self.shows((("back",),) + DOC_HISTORY), False)
        self.assertFalse(self.shows(DOC_HISTORY[:1] + (("next",),) + DOC_HISTORY[1:]))
        self.assertFalse(self.shows(DOC_HISTORY[:3] + (("next",),)))
        self.assertFalse(self.shows((("push", ()),)))

    def test_current_attribute(self):
        found = Fails(DOC_HISTORY)
        found.history = DOC_HISTORY[:3]
        self.assertFalse(found.shows(DOC_SITE, ALL_CARES[:2]))
        found.history = DOC_HISTORY
        self.assertTrue(found.shows(DOC_SITE, list(ALL_CARES[:2])))


class Running(unittest.TestCase):
    def test_machines(self):
        machine = run(DOC_SITE, list(reversed(EIGHT)), list(DOC_HISTORY))
        self.assertIsInstance(machine, Machine)
        self.assertEqual([machine.site, machine.cares, machine.past], [DOC_SITE, EIGHT, DOC_HISTORY])
        self.assertEqual([machine.failure, machine.here, len(machine)], [None, 1, 3])
        self.assertEqual(machine.shown(), ("a", 0, (("x", ("c", 0, ())),)))
        self.assertIsNone(machine.do(("next",)))

    def test_empty(self):
        for history in ((), []):
            machine = run(DOC_SITE, (), history)
            self.assertEqual([machine.past, state(machine)], [(), state(Machine(DOC_SITE, cares=()))])

    def test_the_last_deed_may_fail(self):
        machine = run(DOC_SITE, ALL_CARES[:2], DOC_HISTORY)
        self.assertEqual([machine.failure, machine.past], [("shown", ("x",)), DOC_HISTORY])
        self.assertEqual(list(machine.possible()), [])

    def check_index(self, index, history, cares=ALL_CARES[:2]):
        for value in (history, list(history)):
            with self.assertRaises(BadHistory) as caught:
                run(DOC_SITE, cares, value)
            self.assertEqual(caught.exception.index, index)
            self.assertNotIsInstance(caught.exception.index, bool)

    def test_not_possible(self):
        self.check_index(0, (("back",),))
        self.check_index(1, (("go", (), "c"), ("next",), ("back",)))
        self.check_index(4, DOC_HISTORY + (("next",),))
        self.check_index(4, DOC_HISTORY + (("next",), ("nothing",)))
        self.check_index(5, DOC_HISTORY + (("next",), ("next",)), EIGHT)

    def test_not_deeds(self):
        for value in NOT_DEEDS:
            if value != ("go", (), "c") or isinstance(value, Anything):
                self.check_index(0, (value,))
                self.check_index(1, (("go", ("x",), "c"), value, ("back",)))
        self.check_index(0, (None, ("back",)))
        self.check_index(0, (("back",), None))
        self.check_index(4, DOC_HISTORY + (None,))

    def test_not_a_list_or_tuple(self):
        for value in (None, 1, True, "", "back", b"", {}, {("back",): 1}, set(), object(), DOC_SITE, Anything(), Fails(())):
            with self.assertRaises(BadHistory) as caught:
                run(DOC_SITE, EIGHT, value)
            self.assertIsNone(caught.exception.index)

    def test_nothing_is_kept(self):
        history, cares = list(DOC_HISTORY), list(EIGHT)
        machine = run(DOC_SITE, cares, history)
        self.assertEqual([history, cares], [list(DOC_HISTORY), list(EIGHT)])
        history.clear()
        cares.clear()
        self.assertEqual([machine.past, machine.cares], [DOC_HISTORY, EIGHT])


class Errors(unittest.TestCase):
    def calls(self):
        safe, fails = Safe([]), Fails(())
        return (
            decide, is_safe, count_states, safe.shows, fails.shows,
            lambda site, cares: run(site, cares, None), lambda site, cares: run(site, cares, [None]),
        )

    def test_sites_come_first(self):
        for call in self.calls():
            for value in NOT_SITES:
                for cares in (EIGHT, None):
                    self.assertEqual(errors_of(call, value, cares), (BadSite, {"part": None}))

    def test_cares_come_next(self):
        for call in self.calls():
            for value in NOT_CARES:
                self.assertEqual(errors_of(call, SITE, value), (BadCares, {}))
        for value in NOT_CARES:
            for call in (decide, is_safe, count_states):
                self.assertEqual(errors_of(call, BIG, value), (BadCares, {}))


class Equality(unittest.TestCase):
    def test_safe(self):
        states = decide(SITE, EIGHT).states
        self.assertEqual(Safe(states), Safe(list(states)))
        self.assertFalse(Safe(states) != Safe(list(states)))
        self.assertNotEqual(Safe(states), Safe(states[:-1]))
        self.assertNotEqual(Safe(states), Safe(list(reversed(states))))
        self.assertNotEqual(Safe(states), Safe(states + states[:1]))
        self.assertEqual(Safe([]), Safe([]))

    def test_fails(self):
        self.assertEqual(Fails((GO,)), Fails((GO,)))
        self.assertFalse(Fails((GO,)) != Fails((GO,)))
        self.assertNotEqual(Fails((GO,)), Fails((GO, GO)))
        self.assertNotEqual(Fails((GO,)), Fails(()))

    def test_other_classes(self):
        for value in (None, [], (), 0, Machine(SITE), SITE):
            self.assertNotEqual(Safe([]), value)
            self.assertNotEqual(Fails(()), value)
        self.assertFalse(Safe([]) == Fails(()))
        self.assertFalse(Fails([]) == Safe([]))
        self.assertTrue(Safe([]) != Fails([]))


class Copies(unittest.TestCase):
    def test_the_list_is_copied(self):
        states = decide(SITE, EIGHT).states
        given = list(states)
        found = Safe(given)
        given.clear()
        self.assertEqual(found.states, states)
        found.states.clear()
        self.assertEqual(Safe(states).states, states)

    def test_results_are_new(self):
        first, second = decide(SITE, EIGHT), decide(SITE, EIGHT)
        self.assertEqual(first, second)
        first.states.clear()
        self.assertNotEqual(first, second)
        self.assertTrue(second.shows(SITE, EIGHT))
        self.assertEqual(decide(SITE, EIGHT), second)
        self.assertEqual(count_states(SITE, EIGHT), 5)

    def test_cares_stay_as_they_are(self):
        cares = list(reversed(EIGHT))
        decide(SITE, cares)
        is_safe(SITE, cares)
        count_states(SITE, cares)
        self.assertEqual(cares, list(reversed(EIGHT)))


if __name__ == "__main__":
    unittest.main()
