"""Point [13] and framehistory/keeping.py."""

import random
import unittest
from unittest import mock

from framehistory import searches
from framehistory.deciding import Safe, decide, run
from framehistory.errors import BadCares, BadMachine, BadSite, NotSafe, TooLarge
from framehistory.keeping import Peak, count_kept, most_kept
from framehistory.machines import Machine
from framehistory.sites import ALL_CARES, Site
from framehistory.states import machine_at, state
from tests.makers import any_cares, any_deed, any_site
from tests.reading import Reading
from tests.searching import States, kept_documents
from tests.test_deciding import BIG, DOC_HISTORY, DOC_SITE, EIGHT, FAULTS, LATE, NOT_COVERS, NOT_JOINT, SOON, without
from tests.test_deeds import NOT_SITES
from tests.test_machines import NOT_CARES

X = ("x",)
SITE = Site({"a": (("x", "b"),), "b": ()}, {"a": ("b",), "b": ()}, "a", clears=True)
RICH = Site(
    {"a": (("x", "b"), ("y", "b")), "b": (), "c": ()}, {"a": ("c",), "b": ("b", "c"), "c": ("a", "c")}, "a",
    pushes=("a", "b"), drops=True, clears=True, reopens=True,
)


class Counting(unittest.TestCase):
    def check(self, many, *deeds, site=RICH, cares=EIGHT):
        machine = run(site, cares, deeds)
        self.assertIsNone(machine.failure)
        self.assertEqual(count_kept(machine), many, deeds)
        self.assertEqual(count_kept(machine_at(site, cares, state(machine))), many)
        return machine

    def test_the_beginning(self):
        self.check(3)
        self.check(1, site=Site({"a": ()}, {"a": ()}, "a"), cares=())
        self.check(3, site=Site({"a": (("x", "b"),), "b": (("x", "c"),), "c": ()}, {"a": (), "b": (), "c": ()}, "a"))

    def test_documents_that_are_not_shown(self):
        self.check(4, ("go", X, "c"))
        self.check(4, ("go", X, "c"), ("back",))
        self.check(5, ("go", X, "c"), ("go", (), "c"))
        # The first step is given up, and with it the first document of the frame x.
        self.check(7, ("go", X, "c"), ("go", (), "c"), ("go", (), "a"))

    def test_a_push_keeps_the_document(self):
        self.check(3, ("push", ()), ("push", X))
        self.check(4, ("push", X), cares=without("shares"))

    def test_documents_that_are_gone(self):
        self.check(3, ("go", X, "c"), ("back",), ("push", ()))
        self.check(2, ("drop", X))
        # The document a is given up with the first step.
        self.check(3, ("go", (), "c"), ("go", (), "c"), ("go", (), "c"))

    def test_documents_that_are_thrown_away(self):
        self.check(1, ("go", (), "c"), ("clear",))
        self.check(4, ("go", (), "c"), ("clear",), ("back",))
        self.check(4, ("go", (), "c"), ("clear",), cares=ALL_CARES)
        self.check(3, ("go", X, "c"), ("reopen",))
        self.check(1, ("go", (), "c"), ("reopen",), cares=ALL_CARES)
        # What is loaded again has its saved frames again, with documents that are not kept.
        machine = self.check(4, ("go", X, "c"), ("go", (), "c"), ("clear",), ("back",))
        self.assertIn("('b', False, ())", repr(state(machine)))

    def test_saved_frames_that_are_not_taken_up_again(self):
        # Without names, the only saved frame becomes the first one; a new one stands for the other.
        deeds = (("drop", X), ("reopen",))
        self.check(3, *deeds, cares=without("names"))
        self.check(3, *deeds)

    def test_documents_of_a_frame_that_is_dropped_are_gone(self):
        machine = self.check(2, ("push", X), ("go", X, "c"), ("drop", X))
        self.assertEqual(machine.counts(), (1, 0))

    def test_against_reading(self):
        for seed in range(300):
            chance = random.Random(seed)
            site, cares = any_site(chance), any_cares(chance)
            machine, reading = Machine(site, cares=cares), Reading(site, cares)
            for _ in range(20):
                self.assertEqual(count_kept(machine), kept_documents(reading), machine.past)
                deeds = [deed for deed in machine.possible() if machine.copy().do(deed) is None]
                if deeds:
                    deed = any_deed(chance, deeds)
                    self.assertEqual([machine.do(deed), reading.do(deed)], [None, None])

    def test_bad_machines(self):
        failed = Machine(SITE, cares=())
        failed.do(("go", (), "b"))
        failed = Machine(DOC_SITE, cares=())
        failed.do(("go", X, "c"))
        self.assertIsNotNone(failed.failure)
        for value in NOT_SITES + (SITE, Machine, state(Machine(SITE)), failed):
            with self.assertRaises(BadMachine):
                count_kept(value)


class Peaks(unittest.TestCase):
    def test_the_document(self):
        self.assertEqual(most_kept(SITE, ALL_CARES).number, 3)
        self.assertTrue(most_kept(SITE, EIGHT).shows(SITE, EIGHT))

    def test_small(self):
        found = most_kept(SITE, EIGHT)
        self.assertEqual([found.number, found.history], [3, (("go", (), "b"),)])
        self.assertIsInstance(found.states, list)
        self.assertTrue(Safe(found.states).shows(SITE, EIGHT))
        # From the beginning on, no more are kept than at the beginning.
        site = Site({"a": (("x", "b"),), "b": ()}, {"a": (), "b": ()}, "a", drops=True, pushes=("b",))
        found = most_kept(site, ["covers", "shares", "merges", "joint", "prunes"])
        self.assertEqual([found.number, found.history], [2, ()])

    def test_holds_keeps_more(self):
        site = Site({"a": ()}, {"a": ("a",)}, "a", cap=4, clears=True)
        self.assertEqual([most_kept(site, EIGHT).number, most_kept(site, ALL_CARES).number], [4, 4])
        for cares in (EIGHT, ALL_CARES):
            found = most_kept(site, cares)
            self.assertEqual(count_kept(run(site, cares, found.history)), 4)
            self.assertTrue(found.shows(site, cares))

    def test_against_reading(self):
        numbers = []
        for seed in range(150):
            chance = random.Random(seed)
            site, cares = any_site(chance), any_cares(chance)
            with mock.patch.object(searches, "LIMIT", 60):
                try:
                    found = most_kept(site, cares)
                except (TooLarge, NotSafe):
                    continue
                self.assertIs(found.shows(site, cares), True)
            kept = States(site, cares).kept
            numbers.append(found.number)
            self.assertEqual(found.number, max(kept.values()))
            self.assertEqual(set(found.states), set(kept))
            self.assertEqual(count_kept(run(site, cares, found.history)), found.number)
            self.assertEqual(kept[state(run(site, cares, found.history))], found.number)
        self.assertGreater(len(numbers), 30)
        self.assertGreater(len(set(numbers)), 3)


class Shows(unittest.TestCase):
    def setUp(self):
        self.found = most_kept(DOC_SITE, EIGHT)
        self.number, self.history, self.states = self.found.number, self.found.history, self.found.states

    def shows(self, number, history, states, cares=EIGHT):
        return Peak(number, history, states).shows(DOC_SITE, cares)

    def test_as_found(self):
        self.assertIs(self.shows(self.number, self.history, self.states), True)
        self.assertTrue(self.shows(self.number, self.history, list(reversed(self.states)) + self.states[2:4]))

    def test_another_number(self):
        for number in (0, 1, -1, self.number - 1, self.number + 1, 100):
            self.assertIs(self.shows(number, self.history, self.states), False)

    def test_a_lesser_number_with_its_history(self):
        self.assertEqual(count_kept(Machine(DOC_SITE)), 2)
        self.assertFalse(self.shows(2, (), self.states))
        few = [row for row in self.states if count_kept(machine_at(DOC_SITE, EIGHT, row)) <= 2]
        self.assertFalse(self.shows(2, (), few))

    def test_one_less_with_its_history(self):
        states = decide(SITE, EIGHT).states
        self.assertTrue(Peak(3, (("go", (), "b"),), states).shows(SITE, EIGHT))
        self.assertFalse(Peak(2, (), states).shows(SITE, EIGHT))

    def test_another_history(self):
        self.assertTrue(self.shows(self.number, self.history + (("back",), ("next",)), self.states))
        self.assertIs(self.shows(self.number, (), self.states), False)
        self.assertIs(self.shows(self.number, self.history[:-1], self.states), False)
        self.assertIs(self.shows(self.number, self.history + (("clear",),), self.states), False)

    def test_a_history_that_is_none(self):
        self.assertIs(self.shows(self.number, (("back",),) + self.history, self.states), False)
        self.assertIs(self.shows(self.number, self.history + (("next",),), self.states), False)
        self.assertIs(self.shows(self.number, (("push", ()),), self.states), False)

    def test_a_list_that_lacks_a_state(self):
        for index in range(len(self.states)):
            left = self.states[:index] + self.states[index + 1:]
            self.assertIs(self.shows(self.number, self.history, left), False)
        self.assertIs(self.shows(self.number, self.history, []), False)

    def test_current_attributes(self):
        for name, value in (("number", 1), ("history", ()), ("states", [])):
            found = most_kept(DOC_SITE, EIGHT)
            setattr(found, name, value)
            self.assertFalse(found.shows(DOC_SITE, EIGHT))
        found = most_kept(DOC_SITE, EIGHT)
        found.states.pop()
        self.assertFalse(found.shows(DOC_SITE, EIGHT))

    def test_other_cares(self):
        # With holds, the same histories and states are right here, and fewer states are enough.
        found = most_kept(DOC_SITE, ALL_CARES)
        self.assertTrue(found.shows(DOC_SITE, ALL_CARES))
        self.assertFalse(found.shows(DOC_SITE, EIGHT))
        self.assertTrue(found.shows(DOC_SITE, list(reversed(ALL_CARES))))


class Errors(unittest.TestCase):
    def calls(self):
        return (most_kept, Peak(0, (), []).shows, Peak(2, (), decide(SITE, EIGHT).states).shows)

    def refused(self, error, site, cares):
        for call in self.calls():
            with self.assertRaises(error) as caught:
                call(site, cares)
        return caught.exception

    def test_sites_come_first(self):
        for value in NOT_SITES:
            self.assertIsNone(self.refused(BadSite, value, EIGHT).part)
            self.assertIsNone(self.refused(BadSite, value, None).part)

    def test_cares_come_next(self):
        for value in NOT_CARES:
            self.refused(BadCares, SITE, value)
            self.refused(BadCares, BIG, value)

    def test_too_large_comes_next(self):
        self.refused(TooLarge, BIG, EIGHT)
        # A longer history fails, but there are too many states before.
        self.refused(TooLarge, LATE, NOT_COVERS)

    def test_then_not_safe(self):
        self.refused(NotSafe, SOON, NOT_COVERS)
        self.refused(NotSafe, BIG, NOT_JOINT)
        self.refused(NotSafe, DOC_SITE, ALL_CARES[:2])
        self.assertTrue(run(DOC_SITE, ALL_CARES[:2], DOC_HISTORY).failure)
        for care, site, _, _ in FAULTS:
            self.refused(NotSafe, site, without(care))

    def test_the_limit_itself(self):
        many = len(decide(SITE, EIGHT).states)
        with mock.patch.object(searches, "LIMIT", many):
            self.assertTrue(most_kept(SITE, EIGHT).shows(SITE, EIGHT))
        with mock.patch.object(searches, "LIMIT", many - 1):
            with self.assertRaises(TooLarge):
                most_kept(SITE, EIGHT)
            with self.assertRaises(TooLarge):
                Peak(0, (), []).shows(SITE, EIGHT)


class EqualityAndCopies(unittest.TestCase):
    def test_equal(self):
        found = most_kept(SITE, EIGHT)
        number, history, states = found.number, found.history, found.states
        self.assertEqual(found, most_kept(SITE, EIGHT))
        self.assertFalse(found != Peak(number, history, list(states)))
        self.assertNotEqual(found, Peak(number + 1, history, states))
        self.assertNotEqual(found, Peak(number, (), states))
        self.assertNotEqual(found, Peak(number, history, states[1:]))
        self.assertNotEqual(found, Peak(number, history, list(reversed(states))))

    def test_other_classes(self):
        for value in (None, 0, (), [], Safe([])):
            self.assertNotEqual(Peak(0, (), []), value)
        self.assertFalse(Safe([]) == Peak(0, (), []))

    def test_the_list_is_copied(self):
        states = decide(SITE, EIGHT).states
        given = list(states)
        found = Peak(3, (("go", (), "b"),), given)
        given.clear()
        self.assertEqual(found.states, states)
        found.states.clear()
        self.assertTrue(most_kept(SITE, EIGHT).shows(SITE, EIGHT))

    def test_arguments_stay_as_they_are(self):
        cares = list(reversed(EIGHT))
        found = most_kept(SITE, cares)
        before = (found.number, found.history, list(found.states))
        self.assertTrue(found.shows(SITE, cares))
        self.assertEqual(cares, list(reversed(EIGHT)))
        self.assertEqual((found.number, found.history, found.states), before)
        machine = Machine(SITE)
        self.assertEqual([count_kept(machine), count_kept(machine), machine.past], [2, 2, ()])


if __name__ == "__main__":
    unittest.main()
