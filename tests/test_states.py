"""Point [9] and framehistory/states.py."""

import unittest

from framehistory.errors import BadCares, BadMachine, BadSite
from framehistory.machines import Machine
from framehistory.sites import ALL_CARES, Site
from framehistory.states import machine_at, state
from tests.test_deeds import NOT_SITES
from tests.test_machines import NOT_CARES

X, Y = ("x",), ("y",)
EIGHT = ALL_CARES[:8]
SITE = Site(
    {"a": (("x", "b"), ("y", "b")), "b": (), "c": ()}, {"a": ("c",), "b": ("b", "c"), "c": ("a", "c")}, "a",
    pushes=("a", "b"), drops=True, clears=True, reopens=True,
)


def done(site, cares, *deeds):
    machine = Machine(site, cares=cares)
    for deed in deeds:
        assert machine.do(deed) is None, machine.past
    return machine


class States(unittest.TestCase):
    def test_the_beginning(self):
        trees = ((0, "a", 0, (("x", (1, "b", 0, ())), ("y", (2, "b", 0, ())))),)
        frames = (("x", ((-1, 0, ("b", True, ())),)), ("y", ((-1, 0, ("b", True, ())),)))
        self.assertEqual(state(Machine(SITE)), (trees, 0, 1, 0, ((-1, 0, ("a", True, frames)),)))

    def test_numbers_of_trees_in_the_order_of_their_first_occurrence(self):
        machine = done(SITE, EIGHT, ("go", Y, "c"), ("go", X, "c"))
        trees = (
            (0, "a", 0, (("x", (1, "b", 0, ())), ("y", (2, "b", 0, ())))),
            (0, "a", 0, (("x", (1, "b", 0, ())), ("y", (3, "c", 0, ())))),
            (0, "a", 0, (("x", (4, "c", 0, ())), ("y", (3, "c", 0, ())))),
        )
        self.assertEqual(state(machine)[0], trees)

    def test_numbers_of_trees_begin_anew(self):
        machine = done(SITE, EIGHT, ("go", (), "c"), *[("go", (), "c")] * 3)
        self.assertEqual(state(machine)[0], tuple((number, "c", 0, ()) for number in range(3)))

    def test_a_page_before_those_in_its_frames(self):
        frames = {"a": (("x", "b"), ("y", "c")), "b": (("x", "c"),), "c": ()}
        site = Site(frames, {"a": (), "b": (), "c": ()}, "a")
        tree = (0, "a", 0, (("x", (1, "b", 0, (("x", (2, "c", 0, ())),))), ("y", (3, "c", 0, ()))))
        self.assertEqual(state(Machine(site))[0], (tree,))

    def test_numbers_of_documents(self):
        plain = ("b", True, ())
        machine = done(SITE, EIGHT, ("push", X), ("push", ()))
        frames = (("x", ((-1, 0, plain), (1, 1, 1))), ("y", ((-1, 0, plain),)))
        self.assertEqual(state(machine)[4], ((-1, 0, ("a", True, frames)), (2, 1, 0)))
        # The documents are a, then b in the frame x, then b in the frame y, then c in the outermost frame.
        site = Site(SITE.frames, SITE.links, "a", cap=4, pushes=("a", "b", "c"))
        machine = done(site, EIGHT, ("push", Y), ("go", (), "c"), ("push", ()))
        frames = (("x", ((-1, 0, plain),)), ("y", ((-1, 0, plain), (1, 1, 2))))
        self.assertEqual(state(machine)[4], ((-1, 0, ("a", True, frames)), (2, 0, ("c", True, ())), (3, 1, 3)))

    def test_numbers_of_documents_that_are_gone_are_used_again(self):
        machine = done(SITE, EIGHT, ("go", (), "c"), *[("go", (), "c")] * 3, ("go", (), "a"), ("push", ()))
        frames = tuple((name, ((-1, 0, ("b", True, ())),)) for name in ("x", "y"))
        frame = ((0, 0, ("c", True, ())), (1, 0, ("a", True, frames)), (2, 1, 1))
        self.assertEqual(state(machine)[4], frame)

    def test_the_index_and_the_counts(self):
        machine = done(SITE, EIGHT, ("push", ()), ("push", ()), ("push", ()), ("back",))
        self.assertEqual(state(machine)[1:4], (1, 3, 1))
        machine = done(SITE, EIGHT, ("push", ()), ("back",))
        self.assertEqual(state(machine)[1:4], (0, 2, 0))

    def test_steps_less_than_the_first_one(self):
        # The first step is 2; the entry of x with the step 1 is the one that is shown from there on.
        machine = done(SITE, EIGHT, ("go", X, "c"), *[("push", Y)] * 3)
        frames = dict(state(machine)[4][0][2][2])
        self.assertEqual(frames["x"], ((-1, 0, ("c", True, ())),))
        self.assertEqual(frames["y"], ((0, 1, ("b", True, ())), (1, 0, 2), (2, 1, 2)))

    def test_saved_frames(self):
        machine = done(SITE, EIGHT, ("go", X, "c"), ("drop", Y), ("go", (), "c"), ("clear",))
        saved = (("x", ((-1, 0, ("b", False, ())), (1, 0, ("c", False, ())))),)
        self.assertEqual(state(machine)[4], ((-1, 0, ("a", False, saved)), (2, 0, ("c", True, ()))))

    def test_bad_machines(self):
        failed = Machine(SITE, cares=())
        failed.do(("go", X, "c"))
        for value in (None, 1, True, "a", (), [], {}, SITE, Machine, failed, state(Machine(SITE))):
            with self.assertRaises(BadMachine):
                state(value)

    def test_what_does_not_matter_is_not_in_it(self):
        first = done(SITE, EIGHT, ("go", X, "c"), ("back",), ("go", X, "c"))
        self.assertEqual(state(first), state(done(SITE, EIGHT, ("go", X, "c"))))
        first = done(SITE, EIGHT, ("go", (), "c"), ("go", (), "a"), ("push", ()), ("go", (), "c"))
        second = done(SITE, EIGHT, *[("go", (), "c")] * 5, ("go", (), "a"), ("push", ()), ("go", (), "c"))
        self.assertEqual(state(first), state(second))
        self.assertNotEqual(state(first), state(done(SITE, EIGHT, ("go", (), "c"))))


class MachinesAtStates(unittest.TestCase):
    def test_properties(self):
        machine = done(SITE, EIGHT, ("go", X, "c"), ("push", ()), ("go", (), "c"), ("back",))
        other = machine_at(SITE, list(reversed(EIGHT)), state(machine))
        self.assertIsInstance(other, Machine)
        self.assertEqual([other.site, other.cares, other.failure, other.past], [SITE, EIGHT, None, ()])
        self.assertEqual([other.here, len(other), other.counts()], [machine.here, len(machine), machine.counts()])
        self.assertEqual([other[step] for step in range(3)], [machine[step] for step in range(3)])
        self.assertEqual([other.shown(), state(other)], [machine.shown(), state(machine)])
        self.assertEqual(list(other.possible()), list(machine.possible()))

    def test_numbers_are_not_taken_twice(self):
        machine = done(SITE, EIGHT, ("go", (), "c"), ("go", (), "a"), ("back",))
        other = machine_at(SITE, EIGHT, state(machine))
        for deed in [("go", (), "a"), ("go", X, "b"), ("drop", X), ("go", (), "c"), ("clear",), ("back",)]:
            self.assertEqual([other.do(deed), machine.do(deed)], [None, None])
            self.assertEqual(state(other), state(machine))

    def test_new_pages_have_new_numbers(self):
        site = Site({"a": (("x", "b"),), "b": ()}, {"a": ("a",), "b": ()}, "a", drops=True, clears=True)
        other = machine_at(site, EIGHT, state(done(site, EIGHT, ("drop", X))))
        for deed in [("go", (), "a"), ("clear",), ("back",)]:
            self.assertIsNone(other.do(deed))
        self.assertEqual(other.shown(), ("a", 0, (("x", ("b", 0, ())),)))

    def test_failures_are_the_same(self):
        machine = done(SITE, ALL_CARES, ("drop", X), ("go", (), "c"), ("clear",))
        other = machine_at(SITE, ALL_CARES, state(machine))
        self.assertEqual([other.do(("back",)), machine.do(("back",))], [("shown", ())] * 2)
        self.assertEqual(other.past, (("back",),))

    def test_errors(self):
        first = state(Machine(SITE))
        for value in NOT_SITES:
            with self.assertRaises(BadSite) as caught:
                machine_at(value, None, first)
            self.assertIsNone(caught.exception.part)
        for value in NOT_CARES:
            with self.assertRaises(BadCares):
                machine_at(SITE, value, first)


if __name__ == "__main__":
    unittest.main()
