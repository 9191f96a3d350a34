"""Points [1] and [8], and the class Machine of framehistory/machines.py."""

import types
import unittest

from framehistory.errors import BadCares, BadDeed, BadMachine, BadSite, BadStep, FrameError, NotPossible
from framehistory.machines import Machine, all_deeds
from framehistory.sites import ALL_CARES, Site
from framehistory.states import state
from tests.makers import Anything
from tests.test_deeds import NOT_DEEDS, NOT_SITES

X, Y = ("x",), ("y",)
EIGHT = ALL_CARES[:8]
SITE = Site(
    {"a": (("x", "b"), ("y", "b")), "b": (), "c": ()}, {"a": ("b", "c"), "b": ("c",), "c": ("b",)}, "a",
    pushes=("a", "b"), drops=True, clears=True, reopens=True,
)
NOT_CARES = (
    None, "", "joint", 1, True, {"joint"}, {"joint": 1}, ["joint", "joint"], ("holds", "joint", "holds"), ["Joint"],
    [""], [None], [1], [True], [[]], ["joint", ("prunes",)], [b"joint"], [{}], range(0), Anything(), [Anything()],
)


def but(*lost):
    return tuple(care for care in EIGHT if care not in lost)


def done(machine, *deeds):
    for deed in deeds:
        machine.do(deed)
    return machine


def told(machine):
    seen = [machine[step] for step in range(len(machine))]
    more = [machine.failure, machine.past, machine.here, machine.shown(), machine.counts(), list(machine.possible())]
    return [machine.site, machine.cares, seen, more]


class Making(unittest.TestCase):
    def test_the_beginning(self):
        machine = Machine(SITE)
        self.assertEqual([machine.site, machine.cares, machine.failure, machine.past], [SITE, ALL_CARES, None, ()])
        self.assertEqual([machine.here, len(machine), machine.counts()], [0, 1, (1, 0)])
        view = ("a", 0, (("x", ("b", 0, ())), ("y", ("b", 0, ()))))
        self.assertEqual([machine[0], machine.shown()], [view, view])

    def test_cares_in_any_order(self):
        for cares in (["holds", "joint", "names"], ("names", "holds", "joint"), ["joint", "names", "holds"]):
            machine = Machine(SITE, cares=cares)
            self.assertEqual(machine.cares, ("joint", "names", "holds"))
            self.assertIsInstance(machine.cares, tuple)
        for cares in ([], ()):
            self.assertEqual(Machine(SITE, cares=cares).cares, ())
        self.assertEqual(Machine(SITE, cares=list(reversed(ALL_CARES))).cares, ALL_CARES)

    def test_cares_are_neither_kept_nor_modified(self):
        cares = ["holds", "joint"]
        machine = Machine(SITE, cares=cares)
        self.assertEqual(cares, ["holds", "joint"])
        cares.append("names")
        self.assertEqual(machine.cares, ("joint", "holds"))

    def test_bad_sites_and_cares(self):
        for value in NOT_SITES:
            with self.assertRaises(BadSite) as caught:
                Machine(value, cares=None)
            self.assertIsNone(caught.exception.part)
        for value in NOT_CARES:
            with self.assertRaises(BadCares):
                Machine(SITE, cares=value)

    def test_cares_by_keyword_only(self):
        with self.assertRaises(TypeError):
            Machine(SITE, ())

    def test_properties_cannot_be_assigned(self):
        machine = Machine(SITE)
        for name in ("site", "cares", "failure", "past", "here"):
            with self.assertRaises(AttributeError):
                setattr(machine, name, getattr(machine, name))


class Doing(unittest.TestCase):
    def test_past_and_here(self):
        machine = done(Machine(SITE), ("go", X, "c"), ("push", Y), ("back",))
        self.assertEqual(machine.past, (("go", X, "c"), ("push", Y), ("back",)))
        self.assertEqual([machine.here, len(machine)], [1, 3])

    def test_possible_is_a_generator_in_order(self):
        machine = Machine(SITE)
        self.assertIsInstance(machine.possible(), types.GeneratorType)
        expected = [("go", (), "b"), ("go", (), "c"), ("go", X, "c"), ("go", Y, "c"), ("push", ()), ("push", X)]
        expected += [("push", Y), ("drop", X), ("drop", Y), ("clear",), ("reopen",)]
        self.assertEqual(list(machine.possible()), expected)
        done(machine, ("go", (), "c"), ("go", (), "b"), ("back",))
        expected = [("go", (), "b"), ("back",), ("next",), ("clear",), ("reopen",)]
        self.assertEqual(list(machine.possible()), expected)

    def test_possible_is_by_length_and_then_by_path(self):
        frames = {"a": (("z", "b"), ("y", "b")), "b": (("w", "c"), ("v", "c")), "c": ()}
        site = Site(frames, {"a": (), "b": ("b",), "c": ()}, "a", pushes=("b", "c"), drops=True)
        paths = [("y",), ("z",)]
        deep = [("y", "v"), ("y", "w"), ("z", "v"), ("z", "w")]
        expected = [("go", path, "b") for path in paths] + [("push", path) for path in paths + deep]
        self.assertEqual(list(Machine(site).possible()), expected + [("drop", path) for path in paths + deep])

    def test_can(self):
        machine = Machine(SITE)
        for deed in all_deeds(SITE):
            self.assertIs(machine.can(deed), deed in list(machine.possible()))

    def test_bad_deeds(self):
        site = Site({"a": (("x", "b"),), "b": ()}, {"a": (), "b": ()}, "a")
        machine = Machine(site)
        before = (told(machine), state(machine))
        for value in NOT_DEEDS:
            for call in (machine.do, machine.can):
                with self.assertRaises(BadDeed):
                    call(value)
        self.assertEqual((told(machine), state(machine)), before)

    def test_not_possible(self):
        machine = done(Machine(SITE), ("go", X, "c"), ("go", (), "c"))
        before = (told(machine), state(machine))
        for deed in all_deeds(SITE):
            if deed not in list(machine.possible()):
                with self.assertRaises(NotPossible):
                    machine.do(deed)
        self.assertEqual((told(machine), state(machine)), before)
        self.assertIsNone(machine.do(("back",)))

    def test_errors_are_frame_errors(self):
        machine = Machine(SITE)
        for call in (lambda: machine.do(("back",)), lambda: machine.do(1), lambda: machine[9], lambda: state(1)):
            with self.assertRaises(FrameError):
                call()
            with self.assertRaises(ValueError):
                call()


class Steps(unittest.TestCase):
    def test_by_index(self):
        machine = done(Machine(SITE), ("push", ()), ("go", (), "c"), ("back",))
        self.assertEqual([len(machine), machine[0][:2], machine[1][:2], machine[2]], [3, ("a", 0), ("a", 1), ("c", 0, ())])

    def test_bad_steps(self):
        machine = done(Machine(SITE), ("push", ()))
        for value in (2, -1, -2, 10 ** 20, True, False, None, "0", "", (), (0,), [0], [], {}, slice(0, 1), b"0", Anything()):
            with self.assertRaises(BadStep):
                machine[value]

    def test_not_iterated_over(self):
        machine = Machine(SITE)
        with self.assertRaises(TypeError):
            iter(machine)
        with self.assertRaises(TypeError):
            list(machine)


class Copies(unittest.TestCase):
    def test_a_copy_is_the_same(self):
        machine = done(Machine(SITE, cares=["shares", "joint"]), ("push", ()), ("go", (), "c"), ("back",))
        self.assertIsNone(machine.failure)
        twin = machine.copy()
        self.assertIsInstance(twin, Machine)
        self.assertEqual([told(twin), state(twin)], [told(machine), state(machine)])

    def test_a_copy_is_independent(self):
        machine = done(Machine(SITE, cares=EIGHT), ("go", X, "c"), ("push", ()))
        twin = machine.copy()
        before = [told(machine), state(machine)]
        for deed in [("drop", X), ("clear",), ("back",), ("go", Y, "c"), ("reopen",), ("go", (), "c")]:
            twin.do(deed)
        self.assertEqual([told(machine), state(machine)], before)
        after = [told(twin), state(twin)]
        done(machine, ("back",), ("drop", Y), ("reopen",))
        self.assertEqual([told(twin), state(twin)], after)

    def test_a_copy_after_a_failure(self):
        machine = done(Machine(SITE, cares=()), ("go", X, "c"))
        twin = machine.copy()
        self.assertEqual(told(twin), told(machine))
        self.assertEqual([twin.failure, list(twin.possible())], [("steps", ()), []])


class Failures(unittest.TestCase):
    def fails(self, site, cares, deeds, failure):
        machine = done(Machine(site, cares=cares), *deeds[:-1])
        self.assertIsNone(machine.failure)
        self.assertEqual(machine.do(deeds[-1]), failure)
        self.assertEqual([machine.failure, machine.past], [failure, tuple(deeds)])
        return machine

    def test_steps_by_their_number(self):
        machine = self.fails(SITE, but("joint"), [("go", X, "c")], ("steps", ()))
        self.assertEqual([machine.counts(), len(machine), machine.here], [(1, 0), 2, 1])

    def test_steps_by_the_index_alone(self):
        # Three steps are left in both, but the browser has gone from the second to the third one.
        deeds = [("push", ()), ("push", ()), ("back",), ("back",), ("next",), ("go", X, "c")]
        machine = self.fails(SITE, but("joint"), deeds, ("steps", ()))
        self.assertEqual([machine.counts(), (len(machine), machine.here)], [(3, 1), (3, 2)])

    def test_shown_by_the_state(self):
        site = Site({"a": ()}, {"a": ()}, "a", pushes=("a",), reopens=True)
        self.fails(site, but("states"), [("push", ()), ("reopen",)], ("shown", ()))

    def test_shown_by_the_address(self):
        site = Site({"a": (("x", "b"),), "b": (), "c": ()}, {"a": (), "b": ("c",), "c": ()}, "a", reopens=True)
        self.fails(site, but("nests"), [("go", X, "c"), ("reopen",)], ("shown", X))

    def test_shown_by_the_names_of_the_frames(self):
        self.fails(SITE, ALL_CARES, [("drop", X), ("go", (), "c"), ("clear",), ("back",)], ("shown", ()))

    def test_shown_in_a_frame_within_a_frame(self):
        frames = {"a": (("x", "b"),), "b": (("y", "c"),), "c": (), "d": ()}
        links = {"a": (), "b": (), "c": ("d",), "d": ()}
        site = Site(frames, links, "a", pushes=("a", "c"), drops=True, reopens=True)
        self.fails(site, but("nests"), [("go", ("x", "y"), "d"), ("reopen",)], ("shown", ("x", "y")))
        self.fails(site, but("states"), [("push", ("x", "y")), ("reopen",)], ("shown", ("x", "y")))
        self.fails(site, but("prunes"), [("go", ("x", "y"), "d"), ("back",), ("push", ())], ("shown", ("x", "y")))

    def test_the_first_path_in_the_order_of_the_page(self):
        frames = {"a": (("y", "b"), ("x", "b")), "b": (("z", "c"),), "c": (), "d": ()}
        links = {"a": (), "b": (), "c": ("d",), "d": ()}
        site = Site(frames, links, "a", pushes=("b", "c"), reopens=True)
        deep = [("go", ("x", "z"), "d"), ("go", ("y", "z"), "d"), ("reopen",)]
        self.fails(site, but("nests"), deep, ("shown", ("y", "z")))
        # The frame y with all frames in it comes before the frame x.
        self.fails(site, but("states"), [("push", X), ("push", ("y", "z")), ("reopen",)], ("shown", ("y", "z")))
        # A page comes before those in its frames.
        self.fails(site, but("states"), [("push", ("y", "z")), ("push", Y), ("reopen",)], ("shown", Y))

    def test_no_deed_is_possible_after_a_failure(self):
        machine = self.fails(SITE, but("joint"), [("push", ()), ("back",), ("go", X, "c")], ("steps", ()))
        before = told(machine)
        self.assertEqual(list(machine.possible()), [])
        for deed in all_deeds(SITE):
            self.assertIs(machine.can(deed), False)
            with self.assertRaises(NotPossible):
                machine.do(deed)
        for call in (machine.do, machine.can):
            with self.assertRaises(BadDeed):
                call(("go", X, "q"))
        with self.assertRaises(BadMachine):
            state(machine)
        self.assertEqual(told(machine), before)

    def test_equal_views_do_not_fail(self):
        # The browser shows another document than it should, but nobody can see that.
        site = Site({"a": (("x", "b"), ("y", "b")), "b": ()}, {"a": (), "b": ("b",)}, "a")
        machine = done(Machine(site, cares=but("prunes")), ("go", X, "b"), ("back",), ("go", Y, "b"))
        self.assertIsNone(machine.failure)


if __name__ == "__main__":
    unittest.main()
