"""all_deeds and is_deed of framehistory/machines.py."""

import itertools
import random
import unittest

from framehistory.errors import BadSite
from framehistory.machines import all_deeds, is_deed
from framehistory.sites import Site
from tests.makers import Anything, any_site

SMALL = Site({"a": (("x", "b"),), "b": ()}, {"a": (), "b": ()}, "a")
NOT_SITES = (None, 1, True, "a", (), [], {}, Site, {"a": ()}, Anything())
NOT_DEEDS = (
    None, 0, 1, True, "", "back", b"back", [], (), {}, object(), Site, ["back"], {"back"}, {"back": 1},
    ("Back",), ("forward",), ("",), (b"back",), (None,), (1,), (True,), ([],), ({},), (("back",),),
    ("go",), ("push",), ("drop",), ("back", ()), ("back", None), ("next", ("x",)), ("clear", ()), ("reopen", ()),
    ("go", ()), ("go", "a"), ("go", (), ()), ("go", (), None), ("go", (), 1), ("go", (), ["a"]), ("go", (), {}),
    ("go", (), "c"), ("go", (), ""), ("go", (), "a", "a"), ("go", ("x",), "x"), ("go", "x", "a"), ("go", ["x"], "a"),
    ("go", None, "a"), ("go", ("q",), "a"), ("go", ("x", "q"), "a"), ("go", ("x", "x", "x"), "a"), ("go", "a", ("x",)),
    ("go", (1,), "a"), ("go", (True,), "a"), ("go", ([],), "a"), ("go", (None,), "a"), ("go", (("x",),), "a"),
    ("push", None), ("push", "x"), ("push", "/"), ("push", ["x"]), ("push", ("a",)), ("push", ("x", "x", "x")),
    ("push", (), "a"), ("push", ({},)), ("push", 0), ("push", ("",)), ("push", ("X",)), (["push"], ()),
    ("push", (), "a", "a"), ("drop", ("x",), "a", "a"), ("back", (), "a", "a"), Anything(), (Anything(),), [Anything()],
    (Anything(), ()), (Anything(), (), "a"), ("go", Anything(), "a"), ("go", (Anything(),), "a"), ("go", (), Anything()),
    ("drop", ()), ("drop", "x"), ("drop", ("x", "x", "x")), ("drop", ("b",)), ("drop", ("x",), "a"), ("drop", []),
)


def told(site):
    names = sorted({name for rows in site.frames.values() for name, _ in rows})
    paths = sorted(itertools.chain(*(itertools.product(names, repeat=many) for many in range(3))), key=lambda p: (len(p), p))
    deeds = [("go", path, address) for path in paths for address in sorted(site.frames)]
    deeds += [("push", path) for path in paths] + [("drop", path) for path in paths[1:]]
    return deeds + [("back",), ("next",), ("clear",), ("reopen",)]


class AllDeeds(unittest.TestCase):
    def test_small(self):
        paths = [(), ("x",), ("x", "x")]
        expected = [("go", path, address) for path in paths for address in "ab"]
        expected += [("push", ()), ("push", ("x",)), ("push", ("x", "x")), ("drop", ("x",)), ("drop", ("x", "x"))]
        self.assertEqual(all_deeds(SMALL), expected + [("back",), ("next",), ("clear",), ("reopen",)])

    def test_without_frames(self):
        site = Site({"b": (), "a": ()}, {"a": (), "b": ()}, "a")
        expected = [("go", (), "a"), ("go", (), "b"), ("push", ()), ("back",), ("next",), ("clear",), ("reopen",)]
        self.assertEqual(all_deeds(site), expected)

    def test_many_sites(self):
        for seed in range(150):
            site = any_site(random.Random(seed))
            self.assertEqual(all_deeds(site), told(site))

    def test_names_of_any_pages(self):
        frames = {"a": (("zz", "b"), ("z", "b")), "b": (("y", "c"),), "c": (), "d": (("zzz", "c"), ("y", "c"))}
        site = Site(frames, {page: () for page in frames}, "c")
        self.assertEqual(len(all_deeds(site)), 21 * 4 + 21 + 20 + 4)
        self.assertEqual(all_deeds(site), told(site))

    def test_new_each_time(self):
        all_deeds(SMALL).clear()
        self.assertEqual(len(all_deeds(SMALL)), 15)

    def test_bad_site(self):
        for value in NOT_SITES:
            with self.assertRaises(BadSite) as caught:
                all_deeds(value)
            self.assertIsNone(caught.exception.part)


class IsDeed(unittest.TestCase):
    def test_each_deed_is_one(self):
        for deed in all_deeds(SMALL):
            self.assertIs(is_deed(SMALL, deed), True)

    def test_nothing_else_is(self):
        for value in NOT_DEEDS:
            self.assertIs(is_deed(SMALL, value), False, value)

    def test_deeds_of_other_sites(self):
        for seed in range(60):
            chance = random.Random(seed)
            site, other = any_site(chance), any_site(chance)
            deeds = all_deeds(site)
            for deed in all_deeds(other):
                self.assertIs(is_deed(site, deed), deed in deeds)

    def test_bad_site(self):
        for value in NOT_SITES:
            with self.assertRaises(BadSite) as caught:
                is_deed(value, None)
            self.assertIsNone(caught.exception.part)


if __name__ == "__main__":
    unittest.main()
