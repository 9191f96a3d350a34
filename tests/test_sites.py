"""Point [2] and framehistory/sites.py."""

import unittest

from framehistory.errors import BadSite
from framehistory.machines import Machine
from framehistory.sites import ALL_CARES, Site
from tests.makers import Anything

FRAMES = {"a": (("x", "b"),), "b": ()}
LINKS = {"a": ("b", "a"), "b": ()}
NOT_STRINGS = (None, 1, True, [], {}, (), ("a",), b"a", {"a"}, object(), Anything())
NOT_ADDRESSES = NOT_STRINGS + ("", "c", "A", "aa")
NOT_BOOLEANS = (0, 1, None, "yes", (), [True], Anything())


class SiteCase(unittest.TestCase):
    def refused(self, part, *arguments, **more):
        with self.assertRaises(BadSite) as caught:
            Site(*arguments, **more)
        self.assertEqual(caught.exception.part, part, (arguments, more))


class Cares(unittest.TestCase):
    def test_all_cares(self):
        nine = ("joint", "prunes", "nests", "names", "states", "merges", "covers", "shares", "holds")
        self.assertEqual(ALL_CARES, nine)
        self.assertIsInstance(ALL_CARES, tuple)


class GoodSites(SiteCase):
    def test_properties(self):
        site = Site(FRAMES, LINKS, "b", cap=4, pushes=("b", "a"), drops=True, clears=True, reopens=True)
        self.assertEqual([site.frames, site.links, site.home, site.cap], [FRAMES, {"a": ("a", "b"), "b": ()}, "b", 4])
        self.assertEqual([site.pushes, site.drops, site.clears, site.reopens], [("a", "b"), True, True, True])

    def test_defaults(self):
        site = Site(FRAMES, LINKS, "a")
        found = [site.cap, site.pushes, site.drops, site.clears, site.reopens]
        self.assertEqual(found, [3, (), False, False, False])
        self.assertIs(site.drops, False)

    def test_keyword_only(self):
        with self.assertRaises(TypeError):
            Site(FRAMES, LINKS, "a", 3)

    def test_dicts_in_any_order(self):
        pages = ["d", "b", "a", "c"]
        site = Site({page: () for page in pages}, {page: tuple(pages) for page in reversed(pages)}, "c")
        self.assertEqual(list(site.frames), ["a", "b", "c", "d"])
        self.assertEqual(list(site.links.items()), [(page, ("a", "b", "c", "d")) for page in "abcd"])

    def test_frames_keep_their_order(self):
        site = Site({"a": (("y", "b"), ("x", "c")), "b": (), "c": ()}, {"a": (), "b": (), "c": ()}, "a")
        self.assertEqual(site.frames["a"], (("y", "b"), ("x", "c")))

    def test_names_of_1_and_8_letters(self):
        for name in ("z", "abcdefgh"):
            Site({name: (), "a": ((name, name),)}, {name: (), "a": ()}, name)

    def test_one_to_four_pages(self):
        for pages in ("a", "ab", "abc", "abcd"):
            Site({page: () for page in pages}, {page: () for page in pages}, "a")

    def test_caps(self):
        for cap in (2, 3, 4):
            self.assertEqual(Site(FRAMES, LINKS, "a", cap=cap).cap, cap)

    def test_frames_two_names_deep(self):
        frames = {"a": (("x", "b"), ("y", "c")), "b": (("x", "c"), ("y", "c")), "c": ()}
        self.assertEqual(Site(frames, {"a": (), "b": (), "c": ()}, "c").frames, frames)

    def test_arguments_are_not_kept(self):
        frames, links = dict(FRAMES), dict(LINKS)
        site = Site(frames, links, "a")
        frames.clear()
        links["b"] = ("a",)
        self.assertEqual([site.frames, site.links], [FRAMES, {"a": ("a", "b"), "b": ()}])

    def test_arguments_are_not_modified(self):
        frames, links = {"b": (), "a": (("x", "b"),)}, {"b": (), "a": ("b", "a")}
        Site(frames, links, "a", pushes=("b", "a"))
        self.assertEqual([list(frames), list(links), links["a"]], [["b", "a"], ["b", "a"], ("b", "a")])

    def test_results_are_new(self):
        site = Site(FRAMES, LINKS, "a")
        site.frames.clear()
        site.links["b"] = ("a",)
        self.assertEqual([site.frames, site.links], [FRAMES, {"a": ("a", "b"), "b": ()}])
        self.assertIsNot(site.frames, site.frames)
        self.assertIsNot(site.links, site.links)

    def test_sites_never_change(self):
        site = Site(FRAMES, LINKS, "a")
        for name in ("frames", "links", "home", "cap", "pushes", "drops", "clears", "reopens"):
            with self.assertRaises(AttributeError):
                setattr(site, name, getattr(site, name))


class Equality(SiteCase):
    def test_equal(self):
        first = Site(FRAMES, LINKS, "a", pushes=("a", "b"))
        second = Site({"b": (), "a": (("x", "b"),)}, {"b": (), "a": ("a", "b")}, "a", cap=3, pushes=("b", "a"))
        self.assertTrue(first == second)
        self.assertFalse(first != second)

    def test_each_of_the_eight_counts(self):
        first = Site(FRAMES, LINKS, "a")
        others = [
            Site({"a": (("y", "b"),), "b": ()}, LINKS, "a"),
            Site(FRAMES, {"a": ("b",), "b": ()}, "a"),
            Site(FRAMES, LINKS, "b"),
            Site(FRAMES, LINKS, "a", cap=2),
            Site(FRAMES, LINKS, "a", pushes=("a",)),
            Site(FRAMES, LINKS, "a", drops=True),
            Site(FRAMES, LINKS, "a", clears=True),
            Site(FRAMES, LINKS, "a", reopens=True),
        ]
        for other in others:
            self.assertFalse(first == other)
            self.assertTrue(first != other)

    def test_order_of_frames_counts(self):
        links = {"a": (), "b": ()}
        first = Site({"a": (("x", "b"), ("y", "b")), "b": ()}, links, "a")
        self.assertNotEqual(first, Site({"a": (("y", "b"), ("x", "b")), "b": ()}, links, "a"))

    def test_other_classes(self):
        site = Site(FRAMES, LINKS, "a")
        for other in (None, "a", FRAMES, Machine(site)):
            self.assertFalse(site == other)
            self.assertTrue(site != other)


class BadFrames(SiteCase):
    def bad(self, frames):
        links = {key: () for key in frames} if isinstance(frames, dict) else {}
        self.refused("FRAMES", frames, links, "a")

    def test_not_a_dict(self):
        for value in (None, 1, True, "a", (), [], [("a", ())], (("a", ()),), {"a"}):
            self.bad(value)

    def test_0_and_5_pages(self):
        self.bad({})
        self.bad({page: () for page in "abcde"})

    def test_addresses(self):
        for address in ("", "abcdefghi", "A", "a1", "a b", "a\n", "\u00e9", "_", 1, True, None, ("a",), b"a"):
            self.bad({address: ()})
            self.bad({"a": (), address: ()})

    def test_not_a_tuple_of_frames(self):
        for rows in (None, [], [("x", "b")], "", {}, 0, False, {"x": "b"}):
            self.bad({"a": rows, "b": ()})

    def test_not_a_pair(self):
        for row in (None, "xb", ["x", "b"], ("x",), ("x", "b", "b"), (), 1, {"x": "b"}):
            self.bad({"a": (row,), "b": ()})

    def test_names_of_frames(self):
        for name in ("", "abcdefghi", "X", "x1", "x ", "\u00fc", Anything(), None, 1, True, [], {}, (), b"x"):
            self.bad({"a": ((name, "b"),), "b": ()})

    def test_addresses_of_frames(self):
        for address in NOT_ADDRESSES:
            self.bad({"a": (("x", address),), "b": ()})

    def test_three_frames(self):
        self.bad({"a": (("x", "b"), ("y", "b"), ("z", "b")), "b": ()})

    def test_equal_frames(self):
        self.bad({"a": (("x", "b"), ("x", "c")), "b": (), "c": ()})
        self.bad({"a": (("x", "b"), ("x", "b")), "b": ()})

    def test_deeper_than_two_names(self):
        self.bad({"a": (("x", "b"),), "b": (("x", "c"),), "c": (("x", "d"),), "d": ()})
        self.bad({"d": (("x", "c"),), "c": (("x", "b"),), "b": (("y", "a"),), "a": ()})

    def test_pages_within_themselves(self):
        self.bad({"a": (("x", "a"),)})
        self.bad({"a": (("x", "b"),), "b": (("x", "a"),)})
        self.bad({"a": (("x", "b"),), "b": (("x", "c"),), "c": (("x", "b"),)})
        self.bad({"a": (), "b": (("x", "b"),)})


class BadLinks(SiteCase):
    def test_not_such_a_dict(self):
        wrong = (
            None, (), [], "ab", {}, {"a": ()}, {"b": ()}, {"a": (), "b": (), "c": ()}, {"a": (), "c": ()},
            {"a": (), 1: ()}, {"a": (), None: ()}, {"a": (), "B": ()}, {"a", "b"},
        )
        for links in wrong:
            self.refused("LINKS", FRAMES, links, "a")

    def test_not_a_tuple_of_addresses(self):
        for row in (None, [], ["a"], "a", 0, {}, {"a": "b"}, ("a", "a"), ("b", "a", "b")):
            self.refused("LINKS", FRAMES, {"a": row, "b": ()}, "a")
            self.refused("LINKS", FRAMES, {"a": (), "b": row}, "a")
        for address in NOT_ADDRESSES:
            self.refused("LINKS", FRAMES, {"a": (), "b": ("a", address)}, "a")


class BadRest(SiteCase):
    def test_home(self):
        for home in NOT_ADDRESSES:
            self.refused("HOME", FRAMES, LINKS, home)

    def test_cap(self):
        for cap in (1, 5, 0, -2, True, False, None, "3", (3,), [3], Anything()):
            self.refused("CAP", FRAMES, LINKS, "a", cap=cap)

    def test_pushes(self):
        for pushes in (None, "a", ["a"], [], {}, {"a"}, True, ("a", "a"), ("b", "a", "b")):
            self.refused("PUSHES", FRAMES, LINKS, "a", pushes=pushes)
        for address in NOT_ADDRESSES:
            self.refused("PUSHES", FRAMES, LINKS, "a", pushes=(address,))

    def test_booleans(self):
        for value in NOT_BOOLEANS:
            self.refused("DROPS", FRAMES, LINKS, "a", drops=value)
            self.refused("CLEARS", FRAMES, LINKS, "a", clears=value)
            self.refused("REOPENS", FRAMES, LINKS, "a", reopens=value)

    def test_the_first_one_where_several_are_wrong(self):
        good = [("FRAMES", FRAMES), ("LINKS", LINKS), ("HOME", "a"), ("CAP", 3), ("PUSHES", ())]
        good += [("DROPS", True), ("CLEARS", False), ("REOPENS", True)]
        for first in range(8):
            for second in range(first, 8):
                values = [None if at in (first, second) else value for at, (_, value) in enumerate(good)]
                more = {part.lower(): value for (part, _), value in zip(good[3:], values[3:])}
                self.refused(good[first][0], *values[:3], **more)

    def test_all_wrong_after_each_good_start(self):
        good = [FRAMES, LINKS, "a", 3, (), True, True, True]
        parts = ["FRAMES", "LINKS", "HOME", "CAP", "PUSHES", "DROPS", "CLEARS", "REOPENS"]
        for many in range(8):
            values = good[:many] + [7] * (8 - many)
            more = {part.lower(): value for part, value in zip(parts[3:], values[3:])}
            self.refused(parts[many], *values[:3], **more)


if __name__ == "__main__":
    unittest.main()
