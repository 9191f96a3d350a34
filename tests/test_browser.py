"""Points [5], [6] and [7]: the cares, entries and documents, and the deeds of the browser."""

import unittest

from framehistory.machines import Machine
from framehistory.sites import ALL_CARES, Site
from framehistory.states import state

X, Y = ("x",), ("y",)
EIGHT = ALL_CARES[:8]
PLAIN = ("b", True, ())


def site_of(frames, links, **more):
    return Site(frames, {page: tuple(links.get(page, "")) for page in frames}, "a", **more)


def but(*lost):
    return tuple(care for care in EIGHT if care not in lost)


class BrowserCase(unittest.TestCase):
    def after(self, site, cares, *deeds):
        machine = Machine(site, cares=cares)
        for deed in deeds:
            self.assertIsNone(machine.do(deed), (deed, machine.past))
        return machine

    def frame(self, machine):
        return state(machine)[4]

    def differs(self, site, care, deeds, failure, cares=EIGHT):
        """The last deed fails with the failure without the care, and none fails with it."""
        with_it = tuple(one for one in ALL_CARES if one in cares or one == care)
        machine = self.after(site, with_it, *deeds)
        self.assertIsNone(machine.failure)
        machine = self.after(site, [one for one in with_it if one != care], *deeds[:-1])
        self.assertEqual(machine.do(deeds[-1]), failure)


class EachCare(BrowserCase):
    def test_joint(self):
        site = site_of({"a": (("x", "b"),), "b": ()}, {"a": "b", "b": "b"})
        self.differs(site, "joint", [("go", X, "b")], ("steps", ()))
        # In the outermost frame an entry is added without joint, too.
        self.after(site, but("joint"), ("go", (), "b"), ("back",), ("next",))

    def test_joint_takes_the_entry_that_is_shown(self):
        site = site_of({"a": (("x", "b"),), "b": (), "c": ()}, {"b": "c"}, cap=2, pushes=("a", "b"))
        self.differs(site, "joint", [("push", ()), ("go", X, "c"), ("back",)], ("shown", ()))
        self.differs(site, "joint", [("push", X), ("go", X, "c"), ("back",)], ("shown", X))
        # The entry of the push gets the new document, and its state becomes 0 again.
        machine = self.after(site, but("joint"), ("push", X), ("go", X, "c"))
        frame = ((-1, 0, PLAIN), (1, 0, ("c", True, ())))
        self.assertEqual(self.frame(machine), ((-1, 0, ("a", True, (("x", frame),))),))
        self.assertEqual(machine.counts(), (2, 1))
        machine = self.after(site, but("joint"), ("push", X), ("push", X), ("go", X, "c"))
        frame = ((0, 1, PLAIN), (1, 0, ("c", True, ())))
        self.assertEqual(self.frame(machine), ((-1, 0, ("a", True, (("x", frame),))),))

    def test_prunes(self):
        site = site_of({"a": (("x", "b"), ("y", "b")), "b": (), "c": ()}, {"b": "c"})
        self.differs(site, "prunes", [("go", X, "c"), ("back",), ("go", Y, "c")], ("shown", X))

    def test_prunes_in_the_frame_itself_always(self):
        site = site_of({"a": (("x", "b"), ("y", "b")), "b": ()}, {"b": "b"})
        deeds = [("go", X, "b"), ("go", X, "b"), ("back",), ("back",), ("go", X, "b")]
        for cares in (EIGHT, but("prunes")):
            machine = self.after(site, cares, *deeds)
            frames = (("x", ((-1, 0, PLAIN), (1, 0, PLAIN))), ("y", ((-1, 0, PLAIN),)))
            self.assertEqual(self.frame(machine), ((-1, 0, ("a", True, frames)),))
        deeds = [("go", X, "b"), ("back",), ("go", Y, "b")]
        added = ("y", ((-1, 0, PLAIN), (1, 0, PLAIN)))
        machine = self.after(site, EIGHT, *deeds)
        self.assertEqual(self.frame(machine), ((-1, 0, ("a", True, (("x", ((-1, 0, PLAIN),)), added))),))
        machine = self.after(site, but("prunes"), *deeds)
        # The entry that was not removed is that of the current step now, so its document is shown.
        kept = ("x", ((-1, 0, PLAIN), (1, 0, PLAIN)))
        self.assertEqual(self.frame(machine), ((-1, 0, ("a", True, (kept, added))),))

    def test_nests(self):
        site = site_of({"a": (("x", "b"),), "b": (), "c": ()}, {"a": "c", "b": "c"}, clears=True)
        self.differs(site, "nests", [("go", X, "c"), ("go", (), "c"), ("clear",), ("back",)], ("shown", X))

    def test_nests_with_reopen(self):
        site = site_of({"a": (("x", "b"),), "b": (), "c": ()}, {"b": "c"}, reopens=True)
        self.differs(site, "nests", [("go", X, "c"), ("reopen",)], ("shown", X))

    def test_nests_saves_in_a_document_that_is_not_kept(self):
        site = site_of({"a": (("x", "b"),), "b": (), "c": ()}, {"a": "c", "b": "c"}, clears=True)
        deeds = [("go", X, "c"), ("go", (), "c"), ("clear",)]
        saved = ("x", ((-1, 0, ("b", False, ())), (1, 0, ("c", False, ()))))
        machine = self.after(site, EIGHT, *deeds)
        self.assertEqual(self.frame(machine), ((-1, 0, ("a", False, (saved,))), (2, 0, ("c", True, ()))))
        machine = self.after(site, but("nests"), *deeds)
        self.assertEqual(self.frame(machine), ((-1, 0, ("a", False, ())), (2, 0, ("c", True, ()))))

    def test_names(self):
        site = site_of({"a": (("x", "b"), ("y", "c")), "b": (), "c": ()}, {}, drops=True, reopens=True)
        self.differs(site, "names", [("drop", X), ("reopen",)], ("shown", X))
        for cares in (EIGHT, but("names")):
            # The index of the last frame is the same with and without the other one.
            self.after(site, cares, ("drop", Y), ("reopen",))

    def test_names_goes_by_the_index_in_the_page(self):
        site = site_of({"a": (("x", "b"), ("y", "b")), "b": (), "c": ()}, {"b": "b"}, drops=True, reopens=True)
        deeds = [("go", Y, "b"), ("drop", X), ("reopen",)]
        fresh, saved = ((-1, 0, PLAIN),), ((-1, 0, ("b", False, ())), (1, 0, PLAIN))
        machine = self.after(site, EIGHT, *deeds)
        self.assertEqual(self.frame(machine), ((-1, 0, ("a", True, (("x", fresh), ("y", saved)))),))
        machine = self.after(site, but("names"), *deeds)
        self.assertEqual(self.frame(machine), ((-1, 0, ("a", True, (("x", saved), ("y", fresh)))),))

    def test_states(self):
        site = site_of({"a": (), "b": ()}, {"a": "b"}, pushes=("a",), clears=True)
        self.differs(site, "states", [("push", ()), ("go", (), "b"), ("clear",), ("back",)], ("shown", ()))
        # Entries with a document that is shown keep their states.
        machine = self.after(site, but("states"), ("push", ()), ("back",), ("clear",), ("next",))
        self.assertEqual(machine.shown(), ("a", 1, ()))

    def test_states_with_reopen(self):
        site = site_of({"a": (("x", "b"),), "b": ()}, {}, pushes=("b",), reopens=True)
        self.differs(site, "states", [("push", X), ("reopen",)], ("shown", X))

    def test_states_of_documents_that_were_not_kept(self):
        site = site_of({"a": (), "b": ()}, {"a": "b"}, pushes=("a",), clears=True)
        deeds = [("push", ()), ("go", (), "b"), ("clear",), ("clear",)]
        machine = self.after(site, EIGHT, *deeds)
        rest = (2, 0, PLAIN)
        self.assertEqual(self.frame(machine), ((-1, 0, ("a", False, ())), (1, 1, 0), rest))
        machine = self.after(site, but("states"), *deeds)
        self.assertEqual(self.frame(machine), ((-1, 0, ("a", False, ())), (1, 0, 0), rest))

    def test_merges(self):
        site = site_of({"a": (("x", "b"),), "b": ()}, {"b": "b"}, drops=True)
        self.differs(site, "merges", [("go", X, "b"), ("drop", X)], ("steps", ()))

    def test_covers(self):
        site = site_of({"a": (("x", "b"),), "b": (), "c": ()}, {"b": "c"}, cap=2, pushes=("a",))
        self.differs(site, "covers", [("go", X, "c"), ("push", ()), ("back",)], ("shown", ()))

    def test_shares(self):
        site = site_of({"a": (("x", "b"),), "b": (), "c": ()}, {"b": "c"}, pushes=("a",))
        self.differs(site, "shares", [("go", X, "c"), ("push", ())], ("shown", X))
        frames = (("x", ((-1, 0, PLAIN),)),)
        machine = self.after(site, EIGHT, ("push", ()))
        self.assertEqual(self.frame(machine), ((-1, 0, ("a", True, frames)), (1, 1, 0)))
        machine = self.after(site, but("shares"), ("push", ()))
        self.assertEqual(self.frame(machine), ((-1, 0, ("a", True, frames)), (1, 1, ("a", True, frames))))

    def test_holds_helps(self):
        site = site_of({"a": (("x", "b"),), "b": (), "c": ()}, {"a": "c", "b": "c"}, clears=True)
        deeds = [("go", X, "c"), ("go", (), "c"), ("clear",), ("back",)]
        self.differs(site, "holds", deeds, ("shown", X), cares=but("nests"))
        machine = self.after(site, ALL_CARES, *deeds[:3])
        self.assertIs(self.frame(machine)[0][2][1], True)

    def test_holds_harms(self):
        site = site_of({"a": (("x", "b"),), "b": ()}, {"a": "b"}, drops=True, clears=True)
        deeds = [("drop", X), ("go", (), "b"), ("clear",), ("back",)]
        self.after(site, EIGHT, *deeds)
        machine = self.after(site, ALL_CARES, *deeds[:-1])
        self.assertEqual(machine.do(deeds[-1]), ("shown", ()))

    def test_holds_does_not_keep_from_reopening(self):
        site = site_of({"a": (("x", "b"),), "b": ()}, {}, drops=True, reopens=True)
        machine = self.after(site, ALL_CARES, ("drop", X), ("reopen",))
        self.assertEqual(machine.shown(), ("a", 0, (("x", ("b", 0, ())),)))


class Entries(BrowserCase):
    def test_the_beginning(self):
        site = site_of({"a": (("x", "b"),), "b": (("y", "c"),), "c": ()}, {})
        inner = ("b", True, (("y", ((-1, 0, ("c", True, ())),)),))
        self.assertEqual(self.frame(Machine(site)), ((-1, 0, ("a", True, (("x", ((-1, 0, inner),)),))),))
        self.assertEqual(Machine(site).counts(), (1, 0))

    def test_what_is_not_shown_is_not_loaded(self):
        frames = {"a": (("x", "b"),), "b": (("y", "c"),), "c": ()}
        site = site_of(frames, {"b": "c"}, clears=True, reopens=True)
        machine = self.after(site, EIGHT, ("go", X, "c"), ("reopen",))
        saved = (("y", ((-1, 0, ("c", False, ())),)),)
        frame = ((-1, 0, ("b", False, saved)), (1, 0, ("c", True, ())))
        self.assertEqual(self.frame(machine), ((-1, 0, ("a", True, (("x", frame),))),))
        # It is loaded when a step shows it, with what was saved, and nothing is saved any more.
        self.assertIsNone(machine.do(("back",)))
        loaded = ("b", True, (("y", ((-1, 0, ("c", True, ())),)),))
        self.assertEqual(self.frame(machine)[0][2][2][0][1][0], (-1, 0, loaded))

    def test_the_first_entry_is_shown_if_all_are_later(self):
        site = site_of({"a": (("x", "b"), ("y", "b")), "b": ()}, {"b": "b"}, cap=2)
        machine = self.after(site, but("covers"), ("go", X, "b"), ("go", X, "b"), ("go", Y, "b"), ("back",))
        frames = (("x", ((0, 0, PLAIN),)), ("y", ((1, 0, PLAIN),)))
        self.assertEqual(self.frame(machine), ((-1, 0, ("a", True, frames)),))
        self.assertEqual([machine.counts(), machine.shown()[2][1]], [(2, 0), ("y", ("b", 0, ()))])

    def test_the_entry_that_stays_when_others_are_pruned(self):
        site = site_of({"a": (("x", "b"), ("y", "b")), "b": ()}, {"b": "b"}, cap=2)
        deeds = [("go", X, "b"), ("go", X, "b"), ("go", Y, "b"), ("back",)]
        machine = self.after(site, but("covers"), *deeds, ("go", X, "b"))
        frames = (("x", ((0, 0, PLAIN), (1, 0, PLAIN))), ("y", ((-1, 0, PLAIN),)))
        self.assertEqual(self.frame(machine), ((-1, 0, ("a", True, frames)),))
        # Without prunes, the entries of the other frame stay as they are ..
        machine = self.after(site, but("covers", "prunes"), *deeds, ("go", X, "b"))
        frames = (("x", ((0, 0, PLAIN), (1, 0, PLAIN))), ("y", ((1, 0, PLAIN),)))
        self.assertEqual(self.frame(machine), ((-1, 0, ("a", True, frames)),))
        # .. but in the frame itself the first entry stays, with the step -1, before the new one:
        # the new one has the second one of two steps, so it is not removed again by the cap.
        for cares in (but("covers"), but("covers", "prunes")):
            machine = self.after(site, cares, *deeds, ("go", Y, "b"))
            frames = (("x", ((0, 0, PLAIN),)), ("y", ((-1, 0, PLAIN), (1, 0, PLAIN))))
            self.assertEqual(self.frame(machine), ((-1, 0, ("a", True, frames)),))

    def test_the_first_one_of_several_entries_stays(self):
        site = site_of({"a": (("x", "b"), ("y", "b")), "b": ()}, {"b": "b"}, pushes=("b",))
        deeds = [("go", X, "b")] * 3 + [("go", Y, "b"), ("push", Y), ("back",), ("back",)]
        machine = self.after(site, but("covers"), *deeds)
        self.assertEqual([entry[:2] for entry in self.frame(machine)[0][2][2][1][1]], [(1, 0), (2, 1)])
        self.assertIsNone(machine.do(("go", X, "b")))
        self.assertEqual(self.frame(machine)[0][2][2][1][1], ((-1, 0, PLAIN),))

    def test_the_entry_that_stays_at_the_cap(self):
        site = site_of({"a": (("x", "b"), ("y", "b")), "b": ()}, {"b": "b"}, cap=2)
        deeds = [("go", X, "b"), ("go", Y, "b")]
        machine = self.after(site, EIGHT, *deeds)
        # The next entry of x has the first step, that of y a greater one; the outermost frame has no other one.
        frames = (("x", ((0, 0, PLAIN),)), ("y", ((-1, 0, PLAIN), (1, 0, PLAIN))))
        self.assertEqual(self.frame(machine), ((-1, 0, ("a", True, frames)),))
        machine = self.after(site, but("covers"), *deeds)
        frames = (("x", ((0, 0, PLAIN),)), ("y", ((1, 0, PLAIN),)))
        self.assertEqual(self.frame(machine), ((-1, 0, ("a", True, frames)),))

    def test_the_cap_in_saved_frames(self):
        site = site_of({"a": (("x", "b"),), "b": (), "c": ()}, {"a": "c", "b": "b"}, pushes=("c",), clears=True)
        machine = self.after(site, EIGHT, ("go", X, "b"), ("go", (), "c"), ("clear",), ("push", ()))
        saved = (("x", ((0, 0, ("b", False, ())),)),)
        frame = ((-1, 0, ("a", False, saved)), (1, 0, ("c", True, ())), (2, 1, 2))
        self.assertEqual([self.frame(machine), machine.counts()], [frame, (3, 2)])

    def test_the_cap_in_documents_that_are_not_shown(self):
        site = site_of({"a": (("x", "b"),), "b": (), "c": ()}, {"a": "c", "b": "b"}, pushes=("c",))
        machine = self.after(site, EIGHT, ("go", X, "b"), ("go", (), "c"), ("push", ()))
        kept = (("x", ((0, 0, PLAIN),)),)
        frame = ((-1, 0, ("a", True, kept)), (1, 0, ("c", True, ())), (2, 1, 2))
        self.assertEqual([self.frame(machine), machine.counts()], [frame, (3, 2)])

    def test_documents_of_removed_entries_are_gone(self):
        site = site_of({"a": (("x", "b"),), "b": ()}, {"a": "a", "b": "b"}, cap=4, drops=True)
        # Without prunes, a frame of the page that is cut off still has the step 2, which must not count.
        deeds = [("go", (), "a"), ("go", X, "b"), ("back",), ("back",), ("go", (), "a"), ("go", X, "b"), ("drop", X)]
        machine = self.after(site, but("prunes"), *deeds)
        self.assertEqual(machine.counts(), (2, 1))
        frame = ((-1, 0, ("a", True, (("x", ((-1, 0, PLAIN),)),))), (1, 0, ("a", True, ())))
        self.assertEqual(self.frame(machine), frame)

    def test_documents_in_dropped_frames_are_gone(self):
        site = site_of({"a": (("x", "b"),), "b": (("y", "c"),), "c": ()}, {"c": "c"}, drops=True)
        machine = self.after(site, EIGHT, ("go", ("x", "y"), "c"), ("drop", X))
        self.assertEqual([machine.counts(), self.frame(machine)], [(1, 0), ((-1, 0, ("a", True, ())),)])


class Merging(BrowserCase):
    frames = {"a": (("x", "b"), ("y", "b")), "b": (), "c": (("z", "b"),)}
    site = site_of(frames, {"a": "c", "b": "b"}, cap=4, drops=True, clears=True)

    def test_greater_steps_become_less(self):
        for backs, counts in ((0, (2, 1)), (1, (2, 0)), (2, (2, 0))):
            machine = self.after(self.site, EIGHT, ("go", X, "b"), ("go", Y, "b"), *[("back",)] * backs, ("drop", X))
            self.assertEqual(machine.counts(), counts)
            frame = self.frame(machine)[0][2][2][0][1]
            self.assertEqual([entry[0] for entry in frame], [-1, 1])

    def test_the_last_step_is_taken_out(self):
        machine = self.after(self.site, EIGHT, ("go", Y, "b"), ("go", X, "b"), ("go", X, "b"), ("drop", X))
        self.assertEqual(machine.counts(), (2, 1))

    def test_steps_of_documents_that_are_not_shown_stay(self):
        for deeds in ([], [("clear",)]):
            machine = self.after(self.site, EIGHT, ("go", X, "b"), ("go", (), "c"), *deeds, ("drop", ("z",)))
            self.assertEqual(machine.counts(), (3, 2))

    def test_the_first_step_stays(self):
        site = site_of(self.frames, {"a": "c", "b": "b"}, cap=2, drops=True)
        machine = self.after(site, EIGHT, ("go", X, "b"), ("go", Y, "b"), ("drop", X))
        self.assertEqual([machine.counts(), machine.here, len(machine)], [(2, 1), 1, 2])
        machine = self.after(site, EIGHT, ("go", X, "b"), ("go", Y, "b"), ("drop", Y))
        self.assertEqual([machine.counts(), self.frame(machine)[0][2][2]], [(1, 0), (("x", ((0, 0, PLAIN),)),)])

    def test_steps_behind_the_last_one_stay(self):
        # Without prunes, x still has the step 3 when the last one is the step 1; the step 2 was that of y.
        site = site_of(self.frames, {"a": "c", "b": "b"}, cap=4, pushes=("a",), drops=True)
        deeds = [("go", Y, "b"), ("go", Y, "b"), ("go", X, "b"), ("back",), ("back",), ("back",), ("push", ())]
        machine = self.after(site, but("prunes"), *deeds, ("drop", Y))
        frames = (("x", ((-1, 0, PLAIN), (3, 0, PLAIN))),)
        self.assertEqual(self.frame(machine), ((-1, 0, ("a", True, frames)), (1, 1, 0)))

    def test_without_merges_nothing_is_taken_out(self):
        machine = self.after(self.site, but("merges"), ("go", (), "c"), ("drop", ("z",)))
        self.assertEqual(machine.counts(), (2, 1))
        machine = self.after(self.site, but("merges"), ("go", X, "b"))
        self.assertEqual(machine.do(("drop", X)), ("steps", ()))
        self.assertEqual(machine.counts(), (2, 1))


if __name__ == "__main__":
    unittest.main()
