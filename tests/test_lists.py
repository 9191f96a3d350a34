"""Point [11] and framehistory/lists.py."""

import itertools
import random
import unittest

from framehistory.errors import BadCares, BadDeeds, BadSite
from framehistory.lists import answers, harms, least_sets, needed, sufficient
from framehistory.machines import Machine
from framehistory.sites import ALL_CARES, Site
from tests.makers import Anything, any_cares, any_deed, any_site
from tests.searching import answers_of
from tests.test_deciding import FAULTS
from tests.test_deeds import NOT_DEEDS, NOT_SITES
from tests.test_machines import NOT_CARES

# All sets of cares, in the order of the document.
ALL_SETS = [
    tuple(ALL_CARES[index] for index in chosen) for many in range(10) for chosen in itertools.combinations(range(9), many)
]
SITE = Site({"a": (("x", "b"),), "b": ()}, {"a": (), "b": ("b",)}, "a")
GO = ("go", ("x",), "b")
# A list that holds makes wrong, and one that other cares make wrong if they are there without certain others.
HOLDS_SITE = Site(
    {"a": (("y", "c"),), "c": (), "d": ()}, {"a": ("d",), "c": (), "d": ()}, "a", drops=True, clears=True,
)
HOLDS_DEEDS = [("drop", ("y",)), ("go", (), "d"), ("clear",), ("back",)]
SHARES_SITE = Site(
    {"a": (), "b": (("y", "a"),), "d": (("z", "b"),)}, {"a": (), "b": (), "d": ()}, "d", cap=4, pushes=("a", "b"),
)
SHARES_DEEDS = [("push", ("z", "y")), ("back",), ("push", ("z",))]
NESTS_SITE = Site(
    {"a": (), "b": (("y", "a"),), "c": (("y", "b"), ("x", "a"))}, {"a": (), "b": (), "c": ()}, "c", cap=4,
    pushes=("a",), drops=True, reopens=True,
)
NESTS_DEEDS = [("drop", ("y", "y")), ("drop", ("y",)), ("reopen",), ("reopen",), ("push", ("x",))]
NOT_LISTS = (
    None, 0, 1, True, "", "back", b"", {}, {("back",): 1}, set(), {("back",)}, object(), SITE, Machine(SITE), Anything(),
    (deed for deed in (("back",),)), range(0),
)


class Plain:
    """The answers for all 512 sets, from the second reading of the document."""

    def __init__(self, site, deeds):
        self.good = [
            cares for cares in ALL_SETS
            if all(answer in (None, "no") for answer in answers_of(site, cares, deeds))
        ]

    def least(self):
        return [cares for cares in self.good if not any(set(less) < set(cares) for less in self.good)]

    def needed(self):
        return [care for care in ALL_CARES if all(care in cares for cares in self.good)]

    def harms(self):
        pairs = [(cares, care) for cares in self.good for care in ALL_CARES if care not in cares]
        good = [set(cares) for cares in self.good]
        return [(cares, care) for cares, care in pairs if set(cares) | {care} not in good]


class Answers(unittest.TestCase):
    def test_none_and_no(self):
        deeds = [GO, ("next",), ("back",), ("back",), ("next",), ("go", (), "b"), ("push", ("x",)), ("drop", ("x",))]
        found = answers(SITE, ALL_CARES, deeds)
        self.assertEqual(found, [None, "no", None, "no", None, "no", "no", "no"])
        self.assertIsInstance(found, list)
        self.assertEqual(answers(SITE, ALL_CARES, ()), [])

    def test_failures_and_what_comes_behind(self):
        deeds = [("back",), GO, ("back",), GO, ("next",)]
        self.assertEqual(answers(SITE, (), deeds), ["no", ("steps", ()), "no", "no", "no"])
        found = answers(HOLDS_SITE, ALL_CARES, HOLDS_DEEDS + [("next",), ("go", (), "d")])
        self.assertEqual(found, [None, None, None, ("shown", ()), "no", "no"])
        self.assertEqual(answers(HOLDS_SITE, ALL_CARES[:8], HOLDS_DEEDS + [("next",)]), [None] * 5)

    def test_no_changes_nothing(self):
        self.assertEqual(answers(SITE, ["joint"], [("back",), GO, ("next",), GO, ("back",)]), ["no", None, "no", None, None])

    def test_deeds_of_the_site_that_are_never_possible(self):
        deeds = [("go", ("x", "x"), "a"), ("push", ("x", "x")), ("clear",), ("reopen",), ("drop", ("x",))]
        self.assertEqual(answers(SITE, ALL_CARES, deeds), ["no"] * 5)

    def test_against_reading(self):
        kinds = {None: 0, "no": 0, "steps": 0, "shown": 0}
        for seed in range(300):
            chance = random.Random(seed)
            site, cares = any_site(chance), any_cares(chance)
            deeds = any_list(chance, site)
            found = answers(site, cares, deeds)
            self.assertEqual(found, answers_of(site, cares, deeds))
            for answer in found:
                kinds[answer[0] if isinstance(answer, tuple) else answer] += 1
        self.assertGreater(min(kinds.values()), 15)


def any_list(chance, site):
    """Return some list of deeds, most of them possible when their turn comes."""
    machine = Machine(site, cares=ALL_CARES[:8])
    deeds = []
    for _ in range(chance.choice([0, 2, 4, 8, 20, 40])):
        found = list(machine.possible())
        if chance.random() < 0.1 or found == []:
            deeds.append(("next",))
            if machine.can(("next",)):
                machine.do(("next",))
            continue
        deeds.append(any_deed(chance, found))
        machine.do(deeds[-1])
    return deeds


class Sets(unittest.TestCase):
    def check(self, site, deeds):
        plain = Plain(site, deeds)
        self.assertEqual(sufficient(site, deeds), plain.good, deeds)
        self.assertEqual(least_sets(site, deeds), plain.least(), deeds)
        self.assertEqual(needed(site, deeds), plain.needed(), deeds)
        self.assertEqual(harms(site, deeds), plain.harms(), deeds)
        return plain

    def test_the_order_of_all_sets(self):
        found = sufficient(SITE, [])
        self.assertEqual(len(found), 512)
        self.assertEqual(found, ALL_SETS)
        self.assertEqual(found[:11], [()] + [(care,) for care in ALL_CARES] + [("joint", "prunes")])
        self.assertEqual([found[17], found[18], found[-1]], [("joint", "holds"), ("prunes", "nests"), ALL_CARES])
        rows = [[ALL_CARES.index(care) for care in cares] for cares in found]
        self.assertEqual(rows, sorted(rows, key=lambda row: (len(row), row)))

    def test_nothing_is_needed(self):
        for deeds in ([], (), [("back",), ("clear",)], [("go", (), "b")] * 40):
            self.assertEqual(sufficient(SITE, deeds), ALL_SETS)
            self.assertEqual([least_sets(SITE, deeds), needed(SITE, deeds), harms(SITE, deeds)], [[()], [], []])

    def test_one_is_needed(self):
        deeds = [GO, ("next",), ("back",)]
        self.assertEqual(sufficient(SITE, deeds), [cares for cares in ALL_SETS if "joint" in cares])
        self.assertEqual([least_sets(SITE, deeds), needed(SITE, deeds), harms(SITE, deeds)], [[("joint",)], ["joint"], []])

    def test_each_of_the_first_eight_is_needed_somewhere(self):
        seen = set()
        for care, site, history, _ in FAULTS:
            plain = self.check(site, history)
            self.assertIn(care, needed(site, history))
            self.assertNotIn("holds", needed(site, history))
            seen.update(plain.needed())
        self.assertEqual(seen, set(ALL_CARES[:8]))

    def test_several_are_needed(self):
        care, site, history, _ = next(row for row in FAULTS if row[0] == "names")
        self.assertEqual(needed(site, history), ["nests", "names", "states"])
        self.assertEqual(least_sets(site, history), [("nests", "names", "states")])

    def test_holds_is_a_harm(self):
        plain = self.check(HOLDS_SITE, HOLDS_DEEDS)
        self.assertEqual(len(plain.good), 256)
        found = harms(HOLDS_SITE, HOLDS_DEEDS)
        self.assertEqual(found, [(cares, "holds") for cares in ALL_SETS if "holds" not in cares])
        self.assertEqual([needed(HOLDS_SITE, HOLDS_DEEDS), least_sets(HOLDS_SITE, HOLDS_DEEDS)], [[], [()]])

    def test_other_harms(self):
        for site, deeds, care in ((SHARES_SITE, SHARES_DEEDS, "shares"), (NESTS_SITE, NESTS_DEEDS, "nests")):
            self.check(site, deeds)
            self.assertEqual({pair[1] for pair in harms(site, deeds)}, {care})
            self.assertEqual([needed(site, deeds), least_sets(site, deeds)], [[], [()]])
        found = harms(NESTS_SITE, NESTS_DEEDS)
        self.assertEqual(found[0], ((), "nests"))
        self.assertNotIn((("names",), "nests"), found)
        self.assertEqual(found, sorted(found, key=lambda pair: (ALL_SETS.index(pair[0]), ALL_CARES.index(pair[1]))))

    def test_any_lists(self):
        several = 0
        for seed in range(30):
            chance = random.Random(seed)
            site = any_site(chance)
            deeds = any_list(chance, site)[:12]
            plain = self.check(site, deeds)
            several += plain.least() != [()]
        self.assertGreater(several, 2)

    def test_several_least_sets(self):
        site = Site({"a": ()}, {"a": ()}, "a", cap=2, pushes=("a",), clears=True)
        deeds = [("push", ()), ("push", ()), ("clear",), ("back",)]
        self.assertEqual(least_sets(site, deeds), [("states",), ("shares",), ("holds",)])
        self.assertEqual([needed(site, deeds), harms(site, deeds)], [[], []])
        self.check(site, deeds)

    def test_what_stands_behind_a_failure_does_not_matter(self):
        deeds = [GO, GO, ("back",), ("back",)]
        self.assertEqual(sufficient(SITE, deeds), sufficient(SITE, [GO]))


class Errors(unittest.TestCase):
    def calls(self):
        return (
            sufficient, least_sets, needed, harms, lambda site, deeds: answers(site, ALL_CARES, deeds),
            lambda site, deeds: answers(site, (), deeds),
        )

    def test_sites_come_first(self):
        for value in NOT_SITES:
            for call in self.calls():
                for deeds in ([], None):
                    with self.assertRaises(BadSite) as caught:
                        call(value, deeds)
                    self.assertIsNone(caught.exception.part)
            with self.assertRaises(BadSite):
                answers(value, None, None)

    def test_cares_come_next(self):
        for value in NOT_CARES:
            for deeds in ([], None):
                with self.assertRaises(BadCares):
                    answers(SITE, value, deeds)

    def refused(self, value):
        for call in self.calls():
            with self.assertRaises(BadDeeds):
                call(SITE, value)

    def test_not_lists(self):
        for value in NOT_LISTS:
            self.refused(value)

    def test_not_deeds(self):
        site = Site({"a": (("x", "b"),), "b": ()}, {"a": (), "b": ()}, "a")
        for value in NOT_DEEDS:
            for call in self.calls():
                for deeds in ([value], (("back",), value), [GO, value, ("back",)]):
                    with self.assertRaises(BadDeeds):
                        call(site, deeds)

    def test_deeds_of_another_site(self):
        for deed in (("go", ("y",), "b"), ("go", (), "c"), ("drop", ("y",)), ("push", ("x", "y"))):
            self.refused([deed])
            self.refused([GO, ("back",), deed])
            self.refused((deed,) * 40)

    def test_at_most_forty(self):
        for deed in (("back",), GO):
            for kind in (list, tuple):
                self.assertEqual(len(answers(SITE, ["joint"], kind([deed] * 40))), 40)
                self.assertEqual(len(sufficient(SITE, kind([deed] * 40))), 512 if deed == ("back",) else 256)
                self.refused(kind([deed] * 41))
        self.refused([None] * 41)

    def test_deeds_are_checked_although_they_are_not_possible(self):
        self.refused([GO] * 3 + [("go", ("q",), "b")])
        with self.assertRaises(BadDeeds):
            answers(SITE, (), [GO, ("go", ("q",), "b")])


class Copies(unittest.TestCase):
    def test_arguments_stay_as_they_are(self):
        deeds, cares = [GO, ("next",), ("back",)], ["shares", "joint"]
        for call in (sufficient, least_sets, needed, harms):
            call(SITE, deeds)
        answers(SITE, cares, deeds)
        self.assertEqual([deeds, cares], [[GO, ("next",), ("back",)], ["shares", "joint"]])

    def test_results_are_new(self):
        deeds = [GO, ("back",)]
        for call in (sufficient, least_sets, needed, harms):
            first = call(SITE, deeds)
            kept = list(first)
            first.append(None)
            self.assertEqual(call(SITE, deeds), kept)
        first = answers(SITE, (), deeds)
        first.clear()
        self.assertEqual(answers(SITE, (), deeds), [("steps", ()), "no"])


if __name__ == "__main__":
    unittest.main()
