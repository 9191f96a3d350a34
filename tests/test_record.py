"""Points [3] and [4]: trees, and the record with its deeds.

The numbers of the trees are read off the states; machines with the first eight cares never fail.
"""

import unittest

from framehistory.errors import NotPossible
from framehistory.machines import Machine
from framehistory.sites import ALL_CARES, Site
from framehistory.states import state

X, Y = ("x",), ("y",)
EIGHT = ALL_CARES[:8]


def site_of(frames, links, **more):
    return Site(frames, {page: tuple(links.get(page, "")) for page in frames}, "a", **more)


def after(site, *deeds):
    machine = Machine(site, cares=EIGHT)
    for deed in deeds:
        assert machine.do(deed) is None, (machine.past, machine.failure)
    return machine


def trees(machine):
    return list(state(machine)[0])


class RecordCase(unittest.TestCase):
    def refused(self, machine, deed):
        before = (state(machine), machine.past)
        self.assertIs(machine.can(deed), False)
        self.assertNotIn(deed, list(machine.possible()))
        with self.assertRaises(NotPossible):
            machine.do(deed)
        self.assertEqual((state(machine), machine.past), before)

    def allowed(self, machine, deed):
        self.assertIs(machine.can(deed), True)
        self.assertIn(deed, list(machine.possible()))


class Trees(RecordCase):
    def test_frames_are_loaded_in_turn(self):
        frames = {"a": (("y", "b"), ("x", "c")), "b": (("v", "c"), ("u", "c")), "c": ()}
        machine = after(site_of(frames, {}))
        inner = (1, "b", 0, (("v", (2, "c", 0, ())), ("u", (3, "c", 0, ()))))
        self.assertEqual(trees(machine), [(0, "a", 0, (("y", inner), ("x", (4, "c", 0, ()))))])

    def test_numbers_are_not_seen(self):
        machine = after(site_of({"a": (("x", "b"),), "b": ()}, {"a": "a"}), ("go", (), "a"))
        self.assertEqual([machine[0], machine[1]], [("a", 0, (("x", ("b", 0, ())),))] * 2)
        self.assertEqual(trees(machine)[1], (2, "a", 0, (("x", (3, "b", 0, ())),)))


class Go(RecordCase):
    site = site_of({"a": (("x", "b"),), "b": (("y", "c"),), "c": ()}, {"a": "bc", "b": "bc", "c": "abc"})

    def test_in_the_outermost_frame(self):
        machine = after(self.site, ("go", (), "b"))
        self.assertEqual([machine.here, machine[1]], [1, ("b", 0, (("y", ("c", 0, ())),))])

    def test_in_a_frame_the_rest_stays(self):
        machine = after(self.site, ("go", ("x", "y"), "c"))
        self.assertEqual(trees(machine)[0], (0, "a", 0, (("x", (1, "b", 0, (("y", (2, "c", 0, ())),))),)))
        self.assertEqual(trees(machine)[1], (0, "a", 0, (("x", (1, "b", 0, (("y", (3, "c", 0, ())),))),)))

    def test_needs_a_link(self):
        machine = after(self.site)
        self.refused(machine, ("go", (), "a"))
        self.refused(machine, ("go", X, "a"))
        self.allowed(machine, ("go", (), "c"))

    def test_needs_a_frame_at_the_path(self):
        machine = after(self.site)
        for path in (Y, ("x", "x"), ("y", "x"), ("y", "y")):
            self.refused(machine, ("go", path, "c"))
        self.refused(after(self.site, ("go", (), "c")), ("go", X, "c"))

    def test_no_path_of_more_than_two_names(self):
        machine = after(self.site)
        self.allowed(machine, ("go", X, "b"))
        self.allowed(machine, ("go", ("x", "y"), "c"))
        # c links to a and b, but in the frame y of the frame x they would have paths of three names and more.
        self.refused(machine, ("go", ("x", "y"), "a"))
        self.refused(machine, ("go", ("x", "y"), "b"))
        machine = after(self.site, ("go", X, "c"))
        self.refused(machine, ("go", X, "a"))
        self.allowed(machine, ("go", X, "b"))

    def test_a_page_within_itself_by_a_link(self):
        site = site_of({"a": (("x", "b"),), "b": ()}, {"b": "a"})
        machine = after(site, ("go", X, "a"))
        self.assertEqual(machine[1], ("a", 0, (("x", ("a", 0, (("x", ("b", 0, ())),))),)))
        self.refused(machine, ("go", ("x", "x"), "a"))

    def test_steps_behind_are_cut_off(self):
        machine = after(self.site, ("go", (), "b"), ("go", (), "c"), ("back",), ("back",), ("go", (), "c"))
        self.assertEqual([len(machine), machine.here, machine[1]], [2, 1, ("c", 0, ())])
        self.refused(machine, ("next",))

    def test_cap(self):
        for cap in (2, 3, 4):
            site = site_of({"a": (), "b": ()}, {"a": "b", "b": "a"}, cap=cap)
            machine = after(site, *[("go", (), "ba"[turn % 2]) for turn in range(7)])
            self.assertEqual([len(machine), machine.here], [cap, cap - 1])
            self.assertEqual([machine[step][0] for step in range(cap)], list("abab"[4 - cap:]))

    def test_cap_is_not_passed_after_a_cut(self):
        site = site_of({"a": (), "b": ()}, {"a": "b", "b": "a"}, cap=2)
        machine = after(site, ("go", (), "b"), ("back",), ("go", (), "b"))
        self.assertEqual([machine[0], machine[1]], [("a", 0, ()), ("b", 0, ())])


class Push(RecordCase):
    site = site_of({"a": (("x", "b"),), "b": (), "c": ()}, {"a": "c", "b": "c"}, pushes=("a", "b"))

    def test_the_same_number_and_frames_with_the_other_state(self):
        machine = after(self.site, ("go", X, "c"), ("push", ()), ("push", ()))
        frames = (("x", (2, "c", 0, ())),)
        self.assertEqual(machine.here, 2)
        self.assertEqual(trees(machine)[1:], [(0, "a", 1, (("x", (1, "c", 0, ())),)), (0, "a", 0, (("x", (1, "c", 0, ())),))])
        machine = after(self.site, ("go", X, "c"), ("push", ()))
        self.assertEqual(trees(machine), [(0, "a", 0, (("x", (1, "b", 0, ())),)), (0, "a", 0, frames), (0, "a", 1, frames)])

    def test_in_a_frame(self):
        machine = after(self.site, ("push", X))
        self.assertEqual(trees(machine)[1], (0, "a", 0, (("x", (1, "b", 1, ())),)))

    def test_needs_a_page_that_can(self):
        machine = after(self.site, ("go", X, "c"))
        self.allowed(machine, ("push", ()))
        self.refused(machine, ("push", X))
        self.refused(machine, ("push", ("x", "x")))
        self.allowed(after(self.site), ("push", X))

    def test_cuts_off_and_keeps_the_cap(self):
        machine = after(self.site, ("go", X, "c"), ("back",), ("push", ()))
        self.assertEqual([len(machine), machine[1][1]], [2, 1])
        machine = after(self.site, *[("push", ())] * 4)
        self.assertEqual([len(machine), [machine[step][1] for step in range(3)]], [3, [0, 1, 0]])


class BackAndNext(RecordCase):
    site = site_of({"a": (), "b": ()}, {"a": "b", "b": "a"})

    def test_needs_a_step(self):
        machine = after(self.site)
        self.refused(machine, ("back",))
        self.refused(machine, ("next",))
        machine = after(self.site, ("go", (), "b"))
        self.allowed(machine, ("back",))
        self.refused(machine, ("next",))
        machine = after(self.site, ("go", (), "b"), ("back",))
        self.refused(machine, ("back",))
        self.allowed(machine, ("next",))

    def test_go_from_step_to_step(self):
        machine = after(self.site, ("go", (), "b"), ("go", (), "a"))
        found = [(machine.do(deed), machine.here, machine.shown()[0]) for deed in [("back",), ("back",), ("next",)]]
        self.assertEqual(found, [(None, 1, "b"), (None, 0, "a"), (None, 1, "b")])
        self.assertEqual(len(machine), 3)


class Drop(RecordCase):
    frames = {"a": (("x", "b"), ("y", "b")), "b": (), "c": ()}
    site = site_of(frames, {"a": "c", "b": "bc", "c": "b"}, cap=4, pushes=("a", "b"), drops=True)

    def test_needs_a_site_with_drops_and_a_frame(self):
        machine = after(site_of(self.frames, {"b": "b"}))
        self.refused(machine, ("drop", X))
        machine = after(self.site, ("drop", X))
        self.refused(machine, ("drop", X))
        self.refused(machine, ("drop", ("y", "x")))
        self.allowed(machine, ("drop", Y))
        self.refused(after(self.site, ("go", (), "c")), ("drop", X))

    def test_in_the_trees_of_all_steps(self):
        machine = after(self.site, ("push", ()), ("go", (), "c"), ("back",), ("drop", X))
        rest = (("y", ("b", 0, ())),)
        self.assertEqual([machine[step] for step in range(3)], [("a", 0, rest), ("a", 1, rest), ("c", 0, ())])

    def test_only_of_the_page_with_this_number(self):
        site = site_of({"a": (("x", "b"),), "b": ()}, {"a": "a"}, drops=True)
        machine = after(site, ("go", (), "a"), ("drop", X))
        self.assertEqual([machine[0], machine[1]], [("a", 0, (("x", ("b", 0, ())),)), ("a", 0, ())])

    def test_in_a_frame_within_a_frame(self):
        site = site_of({"a": (("x", "b"),), "b": (("y", "c"),), "c": ()}, {"c": "c"}, drops=True)
        machine = after(site, ("go", ("x", "y"), "c"), ("drop", ("x", "y")))
        self.assertEqual([len(machine), machine[0]], [1, ("a", 0, (("x", ("b", 0, ())),))])

    def test_equal_steps_become_one(self):
        machine = after(self.site, ("go", X, "c"), ("go", X, "b"), ("go", Y, "c"), ("drop", X))
        self.assertEqual([len(machine), machine.here], [2, 1])
        self.assertEqual([machine[0][2][0][1][0], machine[1][2][0][1][0]], ["b", "c"])

    def test_the_one_that_is_left_is_the_current_one_if_one_of_them_was(self):
        for backs, here in ((0, 2), (1, 1), (2, 1), (3, 0)):
            deeds = [("push", ()), ("go", X, "c"), ("push", Y)] + [("back",)] * backs
            machine = after(self.site, *deeds, ("drop", X))
            self.assertEqual([len(machine), machine.here], [3, here])
            self.assertEqual([machine[step][1] for step in range(3)], [0, 1, 1])

    def test_equal_steps_that_are_apart_stay(self):
        machine = after(self.site, ("push", ()), ("push", ()), ("drop", X))
        self.assertEqual([len(machine), machine.here], [3, 2])
        self.assertEqual(trees(machine)[0], trees(machine)[2])

    def test_steps_that_only_look_equal_stay(self):
        machine = after(self.site, ("go", X, "b"), ("go", Y, "b"), ("drop", X))
        self.assertEqual([len(machine), machine.here], [2, 1])
        self.assertEqual(machine[0], machine[1])
        self.assertNotEqual(trees(machine)[0], trees(machine)[1])


class Clear(RecordCase):
    frames = {"a": (("x", "b"), ("y", "c")), "b": (), "c": ()}
    site = site_of(frames, {"a": "c", "b": "c", "c": "c"}, cap=4, pushes=("a",), drops=True, clears=True, reopens=True)

    def test_need_sites_with_them(self):
        machine = after(site_of(self.frames, {}))
        self.refused(machine, ("clear",))
        self.refused(machine, ("reopen",))
        self.allowed(after(self.site), ("clear",))
        self.allowed(after(self.site), ("reopen",))
        machine = after(site_of(self.frames, {}, clears=True))
        self.allowed(machine, ("clear",))
        self.refused(machine, ("reopen",))

    def test_equal_numbers_stay_equal(self):
        machine = after(self.site, ("push", ()), ("go", X, "c"), ("go", (), "c"))
        before = trees(machine)
        for word in ("clear", "reopen"):
            self.assertIsNone(machine.do((word,)))
            self.assertEqual([trees(machine), machine.here], [before, 3])

    def test_thrown_away_pages_have_all_frames_again(self):
        machine = after(self.site, ("go", Y, "c"), ("drop", X), ("go", (), "c"), ("clear",))
        first = (0, "a", 0, (("x", (1, "b", 0, ())), ("y", (2, "c", 0, ()))))
        second = (0, "a", 0, (("x", (1, "b", 0, ())), ("y", (3, "c", 0, ()))))
        self.assertEqual(trees(machine), [first, second, (4, "c", 0, ())])

    def test_they_are_the_same_for_all_occurrences(self):
        machine = after(self.site, ("drop", X), ("push", ()), ("go", (), "c"), ("clear",))
        frames = (("x", (1, "b", 0, ())), ("y", (2, "c", 0, ())))
        self.assertEqual(trees(machine), [(0, "a", 0, frames), (0, "a", 1, frames), (3, "c", 0, ())])

    def test_frames_come_back_in_their_order_with_their_first_pages(self):
        machine = after(self.site, ("go", X, "c"), ("drop", X), ("drop", Y), ("reopen",))
        self.assertEqual([len(machine), machine[0]], [1, ("a", 0, (("x", ("b", 0, ())), ("y", ("c", 0, ()))))])

    def test_pages_in_the_current_tree_stay_with_clear(self):
        machine = after(self.site, ("drop", X), ("push", ()), ("clear",))
        rest = (("y", ("c", 0, ())),)
        self.assertEqual([machine[0], machine[1]], [("a", 0, rest), ("a", 1, rest)])
        self.assertIsNone(machine.do(("reopen",)))
        both = (("x", ("b", 0, ())), ("y", ("c", 0, ())))
        self.assertEqual([machine[0], machine[1]], [("a", 0, both), ("a", 1, both)])

    def test_states_stay(self):
        machine = after(self.site, ("push", ()), ("go", (), "c"), ("clear",), ("reopen",))
        self.assertEqual([machine[step][1] for step in range(3)], [0, 1, 0])

    def test_a_page_in_a_frame_is_thrown_away_alone(self):
        frames = {"a": (("x", "b"),), "b": (("y", "c"),), "c": ()}
        site = site_of(frames, {"b": "c"}, drops=True, clears=True)
        machine = after(site, ("drop", ("x", "y")), ("go", X, "c"), ("clear",))
        self.assertEqual(trees(machine)[0], (0, "a", 0, (("x", (1, "b", 0, (("y", (2, "c", 0, ())),))),)))
        self.assertEqual(trees(machine)[1], (0, "a", 0, (("x", (3, "c", 0, ())),)))

    def test_a_page_in_a_frame_of_the_current_tree_stays_with_clear(self):
        frames = {"a": (("x", "b"),), "b": (("y", "c"),), "c": ()}
        site = site_of(frames, {}, drops=True, clears=True, reopens=True)
        machine = after(site, ("drop", ("x", "y")), ("clear",))
        self.assertEqual(machine[0], ("a", 0, (("x", ("b", 0, ())),)))
        self.assertIsNone(machine.do(("reopen",)))
        self.assertEqual(machine[0], ("a", 0, (("x", ("b", 0, (("y", ("c", 0, ())),))),)))

    def test_pages_thrown_away_within_pages_thrown_away(self):
        frames = {"a": (("x", "b"),), "b": (("y", "c"), ("z", "c")), "c": ()}
        site = site_of(frames, {"a": "c", "b": "b", "c": "c"}, cap=4, drops=True, clears=True)
        machine = after(site, ("drop", ("x", "z")), ("go", ("x", "y"), "c"), ("go", (), "c"), ("clear",))
        first = (0, "a", 0, (("x", (1, "b", 0, (("y", (2, "c", 0, ())), ("z", (3, "c", 0, ()))))),))
        second = (0, "a", 0, (("x", (1, "b", 0, (("y", (4, "c", 0, ())), ("z", (3, "c", 0, ()))))),))
        self.assertEqual(trees(machine), [first, second, (5, "c", 0, ())])


if __name__ == "__main__":
    unittest.main()
