"""Point [17] and framehistory/texts.py."""

import random
import unittest

from framehistory.errors import BadCares, BadDeed, BadDeeds, BadSite, BadText
from framehistory.machines import Machine, all_deeds
from framehistory.sessions import Session
from framehistory.sites import ALL_CARES, Site
from framehistory.texts import (
    cares_text, deed_text, journal_text, read_cares, read_journal, read_site, replay, site_text,
)
from tests.lines import journal_row, near, near_in_lines, site_row
from tests.makers import Anything, any_cares, any_deed, any_site
from tests.searching import answers_of
from tests.test_deeds import NOT_DEEDS, NOT_SITES
from tests.test_machines import NOT_CARES

X, Y = ("x",), ("y",)
GO, BACK, NEXT = ("go", X, "b"), ("back",), ("next",)
SITE = Site(
    {"c": (), "a": (("y", "b"), ("x", "c")), "b": (("z", "c"),)}, {"b": ("c", "a"), "a": ("b",), "c": ()}, "b", cap=4,
    pushes=("c", "b"), drops=True, reopens=True,
)
LINES = (
    "page a y:b x:c", "page b z:c", "page c", "links a b", "links b a c", "links c", "home b", "cap 4", "pushes b c",
    "drops yes", "clears no", "reopens yes",
)
TEXT = "".join(line + "\n" for line in LINES)
SMALL = Site({"a": (("x", "b"),), "b": ()}, {"a": (), "b": ("b",)}, "a", drops=True)
# The site that is meant in test_deeds.NOT_DEEDS.
PLAIN_SITE = Site({"a": (("x", "b"),), "b": ()}, {"a": (), "b": ()}, "a")
JOURNAL = [
    (GO, None), (NEXT, "no"), (("push", ()), ("steps", ())), (("drop", X), ("shown", ())), (("go", (), "a"), ("shown", X)),
    (("push", ("x", "x")), ("shown", ("x", "x"))), (BACK, None), (("clear",), "no"), (("reopen",), None),
]
JOURNAL_LINES = (
    "go /x b -> done", "next -> no", "push / -> steps", "drop /x -> shown /", "go / a -> shown /x", "push /x/x -> shown /x/x",
    "back -> done", "clear -> no", "reopen -> done",
)
JOURNAL_TEXT = "".join(line + "\n" for line in JOURNAL_LINES)
NOT_TEXTS = (None, 0, True, b"", b"-", b"joint", [], [TEXT], (), {}, set(), object(), Anything(), SITE, Site)


def lines_of(*lines):
    return "".join(line + "\n" for line in lines)


def row_of(call, *values):
    """The row of the BadText that a call raises, or None."""
    try:
        call(*values)
    except BadText as error:
        return error.row
    return None


class SiteTexts(unittest.TestCase):
    def test_text(self):
        self.assertEqual(site_text(SITE), TEXT)
        self.assertEqual(read_site(TEXT), SITE)

    def test_least(self):
        site = Site({"home": ()}, {"home": ()}, "home", cap=2)
        text = "page home\nlinks home\nhome home\ncap 2\npushes\ndrops no\nclears no\nreopens no\n"
        self.assertEqual([site_text(site), read_site(text)], [text, site])

    def test_names_of_any_kind(self):
        site = Site(
            {"page": (("links", "yes"), ("page", "no")), "yes": (("no", "no"),), "no": (), "abcdefgh": ()},
            {"page": ("page", "no"), "yes": (), "no": ("yes", "abcdefgh"), "abcdefgh": ("abcdefgh",)}, "no", clears=True,
        )
        text = lines_of(
            "page abcdefgh", "page no", "page page links:yes page:no", "page yes no:no", "links abcdefgh abcdefgh",
            "links no abcdefgh yes", "links page no page", "links yes", "home no", "cap 3", "pushes", "drops no", "clears yes",
            "reopens no",
        )
        self.assertEqual([site_text(site), read_site(text)], [text, site])

    def test_any_sites(self):
        for seed in range(200):
            site = any_site(random.Random(seed))
            text = site_text(site)
            self.assertEqual(read_site(text), site)
            self.assertIsNone(site_row(text))
            self.assertEqual(site_text(read_site(text)), text)

    def test_the_order_of_frames_is_kept(self):
        self.assertEqual(read_site(TEXT).frames["a"], (("y", "b"), ("x", "c")))
        other = TEXT.replace("y:b x:c", "x:c y:b")
        self.assertEqual(read_site(other).frames["a"], (("x", "c"), ("y", "b")))
        self.assertNotEqual(read_site(other), SITE)

    def test_values_are_plain(self):
        site = read_site(TEXT)
        self.assertEqual([site.cap, site.drops, site.clears, site.reopens], [4, True, False, True])
        self.assertEqual([type(site.cap), type(site.drops)], [int, bool])
        self.assertEqual([site.links, site.pushes], [{"a": ("b",), "b": ("a", "c"), "c": ()}, ("b", "c")])


class ReadSite(unittest.TestCase):
    def says(self, row, text):
        self.assertEqual(row_of(read_site, text), row, text)
        self.assertEqual(site_row(text), row, text)

    def changed(self, row, line):
        """The text with another line there is refused because of it."""
        self.says(row, lines_of(*LINES[:row], line, *LINES[row + 1:]))
        self.says(row, lines_of(*LINES[:row], line))

    def test_pages(self):
        for line in (
            "", " ", "page", "page ", "page a ", "page  a", " page a", "page A", "page a1", "page abcdefghi", "page a_",
            "page a x", "page a x:", "page a :b", "page a x:b:c", "page a x: b", "page a x:b ", "page a  x:b", "page a x:B",
            "page a X:b", "page a x:abcdefghi", "page a abcdefghi:b", "page a x:b x:c", "page a x:b x:b", "page a x:b y:b z:b",
            "page a x:b\ty:b", "page a\tx:b", "page a x:b\r", "page a, x:b", "page\ta", "Page a", "pages a", "page a b",
            "page \u00e4", "page a x:\u00e4", "links a", "home a", "cap 3", "page a:b", "page x:b", "page a x:b y", "# page a",
        ):
            self.changed(0, line)
        for line in ("page a", "page a x:a", "page", "page b x", "page c y:a y:", "page b z:c ", "links c", "links b", "home b"):
            self.changed(1, line)
        for line in ("page b", "page a", "page ab", "page aa x:b", "page c x:b y:b z:b", "home b"):
            self.changed(2, line)

    def test_pages_are_ascending(self):
        self.says(1, lines_of("page b", "page a", *LINES[2:]))
        self.says(1, lines_of("page b", "page b", *LINES[2:]))
        self.says(1, lines_of("page ab", "page aa"))
        self.says(1, lines_of("page ab", "page a"))
        self.says(3, lines_of("page a", "page aa", "page b"))

    def test_at_most_four_pages(self):
        pages = ["page a", "page b", "page c", "page d"]
        self.says(4, lines_of(*pages, "page e", "links a"))
        self.says(4, lines_of(*pages))
        self.says(8, lines_of(*pages, "links a", "links b", "links c", "links d a b c d"))
        rest = ("home d", "cap 3", "pushes a b c d", "drops no", "clears no", "reopens no")
        self.says(None, lines_of(*pages, "links a", "links b", "links c", "links d a b c d", *rest))

    def test_links(self):
        for line in (
            "", "links", "links ", "links a ", "links b", "links a  b", "links a b b", "links a b a", "links a c b", "links a d",
            "links a B", "links a b,c", "links a:b", "links  a", " links a", "link a", "page d x", "page a", "home b",
            "links a b c d", "links a b\t", "links\ta",
        ):
            self.changed(3, line)
        self.changed(4, "links a b")
        self.changed(4, "links c")
        self.changed(5, "links b a c")
        self.changed(5, "home b")
        self.changed(4, "page d")
        self.says(4, lines_of(*LINES[:3], "links a", "links a"))
        self.says(None, lines_of(*LINES[:3], "links a a b c", "links b", "links c a c", *LINES[6:]))

    def test_no_page_behind_links(self):
        self.says(2, lines_of("page a", "links a", "page b", "links b"))
        self.says(2, lines_of("page a", "links a", "links a", "home a"))

    def test_home(self):
        for line in (
            "", "home", "home ", "home d", "home b ", "home  b", "home b c", "home B", "Home b", "cap 4", "links c", "home: b",
            "page d", "links a b", "pushes b c", "reopens yes", "home page",
        ):
            self.changed(6, line)

    def test_cap(self):
        for line in (
            "", "cap", "cap ", "cap 1", "cap 5", "cap 0", "cap 04", "cap 4 ", "cap  4", "cap +4", "cap -4", "cap 4.0", "cap 3 4",
            "cap four", "cap 33", "cap \u00b3", "cap \u0663", "home b", "pushes b c", "cap a", "cap=3", "cap yes",
        ):
            self.changed(7, line)
        for cap in "234":
            self.says(None, TEXT.replace("cap 4", "cap " + cap))
            self.assertEqual(read_site(TEXT.replace("cap 4", "cap " + cap)).cap, int(cap))

    def test_pushes(self):
        for line in (
            "", "push", "pushes ", "pushes c b", "pushes b b", "pushes d", "pushes b c ", "pushes  b", "pushes b,c", "pushes -",
            "pushes a b c d", "Pushes", "cap 4", "drops yes", "pushes yes", "pushes b  c",
        ):
            self.changed(8, line)
        for rest in ("", " a", " a b", " a b c", " a c"):
            self.says(None, TEXT.replace("pushes b c", "pushes" + rest))

    def test_switches(self):
        for row, word in ((9, "drops"), (10, "clears"), (11, "reopens")):
            for rest in (
                "", " ", " Yes", " YES", " true", " True", " 1", " y", " yes ", "  yes", " yes no", " none", " ", " nope", "yes",
            ):
                self.changed(row, word + rest)
            for line in ("", "drop yes", "yes", "drops yes" if row != 9 else "clears yes", "reopens no" if row != 11 else "home b"):
                self.changed(row, line)
            for value in ("yes", "no"):
                self.says(None, lines_of(*LINES[:row], f"{word} {value}", *LINES[row + 1:]))

    def test_lines_behind_the_last_one(self):
        for line in ("", " ", "page a", "reopens yes", "home b", "links a", "cap 4", "x"):
            self.says(12, TEXT + line + "\n")
            self.says(12, TEXT + line + "\n" + TEXT)
        self.says(12, TEXT * 2)

    def test_lines_are_missing(self):
        for row in range(12):
            self.says(row, lines_of(*LINES[:row]))

    def test_characters_behind_the_last_line_feed(self):
        for more in ("x", " ", "\r", "reopens yes", "page a", "\t", "\u00e4", "0"):
            self.says(12, TEXT + more)
        for row in range(12):
            self.says(row, lines_of(*LINES[:row]) + LINES[row])
            self.says(row, lines_of(*LINES[:row]) + " ")
        self.says(0, LINES[0])
        self.says(0, " ")
        self.says(0, "")

    def test_the_first_line_that_is_not_accepted_counts(self):
        self.says(1, lines_of(LINES[0], "page", *LINES[2:11], "reopens"))
        self.says(7, lines_of(*LINES[:7], "cap 9", *LINES[8:]) + "x")
        self.says(6, lines_of(*LINES[:6], "home q"))
        # The addresses of frames count last.
        self.says(7, lines_of("page a x:q", *LINES[1:7], "cap 9", *LINES[8:]))
        self.says(12, lines_of("page a x:q", *LINES[1:]) + "x")
        self.says(11, lines_of("page a x:q", *LINES[1:11]))
        self.says(12, lines_of("page a x:q", *LINES[1:], "x"))

    def test_addresses_of_frames(self):
        for first in ("page a x:d", "page a x:a", "page a x:q y:b", "page a x:abcdefgh", "page a x:page"):
            self.says(0, lines_of(first, *LINES[1:]))
        self.says(0, lines_of(*LINES[:1], "page b z:a", *LINES[2:]))
        self.says(0, lines_of(*LINES[:2], "page c y:a", *LINES[3:]))
        self.says(0, lines_of(*LINES[:2], "page c y:c", *LINES[3:]))
        rest = ("links a", "links b", "links c", "links d", "home d", "cap 2", "pushes", "drops no", "clears no", "reopens no")
        self.says(None, lines_of("page a x:b", "page b x:c", "page c", "page d", *rest))
        self.says(0, lines_of("page a x:b", "page b x:c", "page c", "page d x:a", *rest))
        self.says(0, lines_of("page a x:b", "page b x:c", "page c x:d", "page d", *rest))

    def test_other_line_feeds(self):
        for other in ("\r\n", "\r", "\u2028", "\x0b", "\x0c", "\x85", "\n\n", " \n", "\n "):
            self.says(site_row(TEXT.replace("\n", other)), TEXT.replace("\n", other))
            self.assertIsNotNone(site_row(TEXT.replace("\n", other)))

    def test_not_strings(self):
        for value in NOT_TEXTS:
            with self.assertRaises(BadText) as caught:
                read_site(value)
            self.assertEqual(caught.exception.row, 0)

    def test_one_character_or_line_of_another_kind(self):
        small = site_text(Site({"a": (("x", "b"),), "b": ()}, {"a": ("a", "b"), "b": ()}, "a", pushes=("b",)))
        texts = list(near(small, "ab:x 2\nyA\r")) + list(near(TEXT, "b \n:")) + list(near_in_lines(TEXT))
        told = {True: 0, False: 0}
        for text in texts:
            row = row_of(read_site, text)
            self.assertEqual(row, site_row(text), text)
            if row is None:
                self.assertEqual(site_text(read_site(text)), text)
            told[row is None] += 1
        self.assertGreater(min(told.values()), 30)


class Cares(unittest.TestCase):
    def test_text(self):
        for cares, text in (
            ((), "-"), (("joint", "prunes"), "joint prunes"), (("holds",), "holds"),
            (ALL_CARES, "joint prunes nests names states merges covers shares holds"),
        ):
            self.assertEqual([cares_text(cares), read_cares(text)], [text, cares])
            self.assertIsInstance(read_cares(text), tuple)

    def test_in_any_order(self):
        for cares in (["holds", "joint", "nests"], ("nests", "holds", "joint")):
            self.assertEqual(cares_text(cares), "joint nests holds")
        self.assertEqual([cares_text([]), cares_text(list(ALL_CARES[::-1]))], ["-", " ".join(ALL_CARES)])

    def test_all_sets(self):
        for number in range(512):
            cares = tuple(care for index, care in enumerate(ALL_CARES) if number >> index & 1)
            self.assertEqual(read_cares(cares_text(cares)), cares)

    def test_other_texts(self):
        for text in (
            "", " ", "--", "- ", " -", "-\n", "joint\n", "\njoint", " joint", "joint ", "joint  prunes", "prunes joint", "joint joint",
            "joint prunes joint", "Joint", "joint,prunes", "joint\tprunes", "joint -", "- joint", "join", "joints", "x", "joint x",
            "x joint", "joint\nprunes", "jointprunes", "holds joint", "None", "()", "\u00e4", "joint prunes\r",
        ):
            with self.assertRaises(BadText) as caught:
                read_cares(text)
            self.assertEqual(caught.exception.row, 0)
        for value in NOT_TEXTS:
            self.assertEqual(row_of(read_cares, value), 0)

    def test_one_character_of_another_kind(self):
        good = {cares_text([care for index, care in enumerate(ALL_CARES) if number >> index & 1]) for number in range(512)}
        for text in good:
            for other in near(text, " -\n") if len(text) < 20 else ():
                self.assertEqual(row_of(read_cares, other), None if other in good else 0, other)

    def test_not_cares(self):
        for value in NOT_CARES:
            self.assertRaises(BadCares, cares_text, value)


class DeedTexts(unittest.TestCase):
    def test_text(self):
        for deed, text in (
            (("go", ("x", "y"), "b"), "go /x/y b"), (("push", ()), "push /"), (("drop", ("x",)), "drop /x"), (BACK, "back"),
            (("go", (), "a"), "go / a"), (("push", ("y", "x")), "push /y/x"), (NEXT, "next"), (("clear",), "clear"),
            (("reopen",), "reopen"), (("drop", ("z", "z")), "drop /z/z"),
        ):
            self.assertEqual(deed_text(SITE, deed), text)

    def test_they_are_different(self):
        deeds = all_deeds(SITE)
        self.assertEqual(len({deed_text(SITE, deed) for deed in deeds}), len(deeds))

    def test_errors(self):
        for value in NOT_SITES:
            for deed in (BACK, None):
                with self.assertRaises(BadSite) as caught:
                    deed_text(value, deed)
                self.assertIsNone(caught.exception.part)
        for value in NOT_DEEDS:
            self.assertRaises(BadDeed, deed_text, PLAIN_SITE, value)


class JournalTexts(unittest.TestCase):
    def test_text(self):
        self.assertEqual(journal_text(SMALL, JOURNAL), JOURNAL_TEXT)
        self.assertEqual(journal_text(SMALL, tuple(JOURNAL)), JOURNAL_TEXT)
        found = read_journal(SMALL, JOURNAL_TEXT)
        self.assertEqual(found, JOURNAL)
        self.assertEqual([type(found), type(found[0])], [list, tuple])

    def test_empty(self):
        self.assertEqual([journal_text(SMALL, []), journal_text(SMALL, ()), read_journal(SMALL, "")], ["", "", []])

    def test_each_deed_and_each_answer(self):
        for site in (SITE, SMALL, Site({"a": ()}, {"a": ()}, "a")):
            deeds = all_deeds(site)
            paths = [deed[1] for deed in deeds if deed[0] == "push"]
            answers = [None, "no", ("steps", ())] + [("shown", path) for path in paths]
            journal = [(deed, answer) for deed in deeds for answer in answers]
            text = journal_text(site, journal)
            self.assertEqual(read_journal(site, text), journal)
            self.assertEqual(len(set(text.split("\n")[:-1])), len(journal))

    def test_there_is_no_limit(self):
        journal = [(GO, None), (BACK, "no")] * 500
        text = journal_text(SMALL, journal)
        self.assertEqual([len(text.split("\n")), read_journal(SMALL, text)], [1001, journal])
        self.assertEqual(replay(SMALL, ALL_CARES, text), 1)

    def test_of_sessions(self):
        for seed in range(60):
            chance = random.Random(seed)
            site = any_site(chance)
            session = Session(site, cares=any_cares(chance))
            for _ in range(30):
                session.deed(any_deed(chance, all_deeds(site)))
            text = journal_text(site, session.journal)
            self.assertEqual(read_journal(site, text), session.journal)
            self.assertIsNone(replay(site, session.machine().cares, text))

    def test_arguments_stay_as_they_are(self):
        journal = list(JOURNAL)
        journal_text(SMALL, journal)
        self.assertEqual(journal, JOURNAL)
        read_journal(SMALL, JOURNAL_TEXT).clear()
        self.assertEqual(read_journal(SMALL, JOURNAL_TEXT), JOURNAL)

    def test_bad_sites(self):
        for value in NOT_SITES:
            for call in (
                lambda: site_text(value), lambda: journal_text(value, []), lambda: journal_text(value, None),
                lambda: read_journal(value, ""), lambda: read_journal(value, None), lambda: replay(value, ALL_CARES, ""),
                lambda: replay(value, None, None),
            ):
                with self.assertRaises(BadSite) as caught:
                    call()
                self.assertIsNone(caught.exception.part)

    def test_not_journals(self):
        for value in (
            None, 0, True, "", JOURNAL_TEXT, {}, {GO: None}, set(), {(GO, None)}, object(), Anything(), range(0), SMALL,
            (row for row in JOURNAL), Session(SMALL), [None], [GO], [()], [[]], [(GO,)], [(GO, None, None)], [[GO, None]], ["no"],
            [(GO, None), None], [GO, None], (GO, None), [(None, GO)], [Anything()], [{}], [(GO, None), (GO,)],
        ):
            self.assertRaises(BadDeeds, journal_text, SMALL, value)

    def test_not_deeds(self):
        for value in NOT_DEEDS:
            for journal in ([(value, None)], ((BACK, "no"), (value, "no")), [(value, ("shown", ())), (BACK, None)]):
                self.assertRaises(BadDeeds, journal_text, PLAIN_SITE, journal)

    def test_not_answers(self):
        for value in (
            0, True, False, "", "No", "done", "none", "steps", "shown", "shown /", b"no", [], {}, (), object(), Anything(),
            ("steps",), ("shown",), ("no",), ("done", ()), ("steps", X), ("steps", None), ("steps", []), ("steps", "/"),
            ("shown", None), ("shown", "/"), ("shown", "x"), ("shown", ["x"]), ("shown", ("q",)), ("shown", ("b",)),
            ("shown", ("x", "x", "x")), ("shown", (1,)), ("shown", ([],)), ("shown", (True,)), ("shown", ("x", None)),
            ("Shown", ()), ("shown", (), ()), ["shown", ()], ["steps", ()], (None, ()), (1, ()), (Anything(), ()),
            ("shown", Anything()), ("shown", (Anything(),)), ("steps", Anything()), ("steps", (), ()), GO, ("shown", ("",)),
            (b"steps", ()), ("step", ()),
        ):
            for journal in ([(GO, value)], ((BACK, "no"), (GO, value))):
                self.assertRaises(BadDeeds, journal_text, SMALL, journal)


class ReadJournal(unittest.TestCase):
    def says(self, row, text, site=SMALL):
        self.assertEqual(row_of(read_journal, site, text), row, text)
        self.assertEqual(row_of(replay, site, ALL_CARES, text), row, text)
        self.assertEqual(journal_row(site, text), row, text)

    def test_each_place(self):
        for line in (
            "", " ", "back", "back ->", "back -> ", "-> done", " -> done", "back->done", "back -> done ", " back -> done",
            "back  -> done", "back ->  done", "back -> Done", "back -> none", "back -> None", "back -> no done", "back -> steps /",
            "back -> steps ()", "back -> shown", "back -> shown ", "back -> shown x", "back -> shown /q", "back -> shown //",
            "back -> shown /x/", "back -> shown /x/x/x", "back -> shown  /", "back -> shown / /", "back -> shown /b",
            "back -> done -> done", "back -> back -> done", "Back -> done", "forward -> no", "back / -> no", "push -> no",
            "push  -> no", "push / / -> no", "push x -> no", "push /q -> no", "push /x/x/x -> no", "push // -> no", "push /x/ -> no",
            "push /b -> no", "drop / -> no", "drop -> no", "drop /x b -> no", "go / -> no", "go b -> no", "go /x c -> no",
            "go /x -> no", "go  /x b -> no", "go /x  b -> no", "go /x b b -> no", "go /X b -> no", "go /x B -> no", "go x b -> no",
            "go () b -> no", "push () -> no", "back -> done\r", "\tback -> done", "back => done", "back - > done", "back -> no\t",
        ):
            for row in (0, 4, len(JOURNAL_LINES) - 1):
                self.says(row, lines_of(*JOURNAL_LINES[:row], line, *JOURNAL_LINES[row + 1:]))
            self.says(len(JOURNAL_LINES), lines_of(*JOURNAL_LINES, line))
            self.says(0, line + "\n")

    def test_characters_behind_the_last_line_feed(self):
        for more in ("x", " ", "back -> done", "\r", "\t", "-"):
            self.says(9, JOURNAL_TEXT + more)
            self.says(0, more)
        self.says(8, JOURNAL_TEXT[:-1])

    def test_the_first_line_that_is_not_accepted_counts(self):
        self.says(1, lines_of("back -> no", "x", "y") + "z")
        self.says(2, lines_of("back -> no", "back -> no", "y") + "z")

    def test_deeds_and_paths_of_other_sites(self):
        self.says(0, "go /y b -> no\n")
        self.says(None, "go /y b -> no\n", SITE)
        self.says(0, "back -> shown /z\n")
        self.says(None, "back -> shown /z\n", SITE)
        self.says(0, "push /x -> no\n", Site({"a": ()}, {"a": ()}, "a"))
        # Of the site, though no page can ever be shown there.
        self.says(None, "go /x/x a -> shown /x/x\n")

    def test_not_strings(self):
        for value in NOT_TEXTS:
            for call in (read_journal, lambda site, text: replay(site, (), text)):
                with self.assertRaises(BadText) as caught:
                    call(SMALL, value)
                self.assertEqual(caught.exception.row, 0)

    def test_one_character_or_line_of_another_kind(self):
        texts = list(near(JOURNAL_TEXT, "x/ -\nb")) + list(near_in_lines(JOURNAL_TEXT))
        told = {True: 0, False: 0}
        for text in texts:
            row = row_of(read_journal, SMALL, text)
            self.assertEqual(row, journal_row(SMALL, text), text)
            if row is None:
                self.assertEqual(journal_text(SMALL, read_journal(SMALL, text)), text)
            told[row is None] += 1
        self.assertGreater(min(told.values()), 30)


class Replays(unittest.TestCase):
    def test_the_same(self):
        text = lines_of("back -> no", "go /x b -> done", "back -> done", "drop /x -> done", "next -> no")
        self.assertIsNone(replay(SMALL, ALL_CARES, text))
        self.assertIsNone(replay(SMALL, (), ""))
        text = lines_of("go /x b -> steps", "back -> no", "go /x b -> no")
        self.assertIsNone(replay(SMALL, (), text))
        self.assertIsNone(replay(SMALL, ["holds", "covers"], text))

    def test_other_answers(self):
        lines = ["back -> no", "go /x b -> done", "back -> done", "back -> no", "next -> done"]
        self.assertIsNone(replay(SMALL, ALL_CARES, lines_of(*lines)))
        for row, line in enumerate(lines):
            deed = line.split(" -> ")[0]
            for answer in ("done", "no", "steps", "shown /", "shown /x"):
                other = f"{deed} -> {answer}"
                expected = None if other == line else row
                self.assertEqual(replay(SMALL, ALL_CARES, lines_of(*lines[:row], other, *lines[row + 1:])), expected)

    def test_the_first_of_several(self):
        self.assertEqual(replay(SMALL, ALL_CARES, lines_of("back -> no", "next -> done", "back -> done")), 1)

    def test_other_cares(self):
        session = Session(SMALL)
        for deed in (BACK, GO, BACK):
            session.deed(deed)
        text = journal_text(SMALL, session.journal)
        self.assertEqual([replay(SMALL, ["joint"], text), replay(SMALL, ALL_CARES[1:], text)], [None, 1])
        told = set()
        for seed in range(150):
            chance = random.Random(seed)
            site, other = any_site(chance), any_cares(chance)
            session = Session(site, cares=any_cares(chance))
            for _ in range(25):
                deeds = list(session.machine().possible()) or all_deeds(site)
                session.deed(any_deed(chance, deeds))
            found = answers_of(site, other, [deed for deed, _ in session.journal])
            rows = [row for row, (_, answer) in enumerate(session.journal) if answer != found[row]]
            text = journal_text(site, session.journal)
            self.assertEqual(replay(site, other, text), rows[0] if rows else None)
            told.add(rows[0] if rows else None)
        self.assertGreater(len(told), 6)

    def test_paths_of_failures(self):
        site = Site({"a": (("x", "b"),), "b": ()}, {"a": (), "b": ()}, "a", pushes=("b",), clears=True, reopens=True)
        self.assertIsNone(replay(site, ALL_CARES[4:5], "push /x -> done\nreopen -> shown /x\nback -> no\n"))
        self.assertEqual(replay(site, ALL_CARES[4:5], "push /x -> done\nreopen -> shown /\n"), 1)
        self.assertEqual(replay(site, ALL_CARES[:8], "push /x -> done\nreopen -> shown /x\n"), 1)

    def test_errors(self):
        for value in NOT_CARES:
            for text in ("", "x\n", None):
                self.assertRaises(BadCares, replay, SMALL, value, text)
        # The text is read first: a line that cannot be read comes before an answer that is another one.
        self.assertEqual(row_of(replay, SMALL, (), "back -> done\nx\n"), 1)
        self.assertEqual(row_of(replay, SMALL, (), "back -> done\nx"), 1)

    def test_nothing_is_kept(self):
        machine = Machine(SMALL)
        replay(SMALL, ALL_CARES, "go /x b -> done\n")
        self.assertEqual([machine.past, Machine(SMALL).here], [(), 0])


if __name__ == "__main__":
    unittest.main()
