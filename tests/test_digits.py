"""Point [18] and framehistory/digits.py."""

import random
import unittest

from framehistory.deciding import Fails, decide, run
from framehistory.digits import decode, encode
from framehistory.errors import BadCares, BadDigits, BadHistory, BadSite
from framehistory.machines import Machine, all_deeds
from framehistory.sites import ALL_CARES, Site
from tests.makers import Anything, any_cares, any_deed, any_site
from tests.reading import Reading
from tests.test_deciding import NOT_JOINT, errors_of
from tests.test_deeds import NOT_DEEDS, NOT_SITES
from tests.test_machines import NOT_CARES

X = ("x",)
SITE = Site({"a": (("x", "b"),), "b": ()}, {"a": (), "b": ("b",)}, "a", cap=2, drops=True)
GO, DROP, BACK, NEXT = ("go", X, "b"), ("drop", X), ("back",), ("next",)
# The site that is meant in test_deeds.NOT_DEEDS.
PLAIN_SITE = Site({"a": (("x", "b"),), "b": ()}, {"a": (), "b": ()}, "a", reopens=True)
# There are more than sixteen deeds that are possible.
WIDE = Site(
    {"a": (("x", "b"), ("y", "b")), "b": (("z", "d"), ("w", "c")), "c": (), "d": ()},
    {"a": ("a", "b", "c", "d"), "b": ("b", "c", "d"), "c": ("c", "d"), "d": ("c", "d")}, "a", pushes=("a", "b", "c", "d"),
    drops=True, clears=True, reopens=True,
)


def told_in(site, cares, history):
    """The digits of a history, from the second reading of the document."""
    reading = Reading(site, cares)
    pairs = []
    for deed in history:
        pairs.append(format(reading.possible().index(deed), "02x"))
        reading.do(deed)
    return "".join(pairs)


def offset_of(site, cares, text):
    """The offset of the BadDigits that decode raises, or "none"."""
    try:
        decode(site, cares, text)
    except BadDigits as error:
        return error.offset
    return "none"


class ThereAndBack(unittest.TestCase):
    def check(self, site, cares, history, text):
        self.assertEqual(encode(site, cares, history), text)
        self.assertEqual(encode(site, cares, list(history)), text)
        found = decode(site, cares, text)
        self.assertEqual(found, tuple(history))
        self.assertIsInstance(found, tuple)

    def test_the_document(self):
        self.check(SITE, (), (DROP,), "01")
        self.check(SITE, ["joint"], (GO, BACK), "0002")

    def test_small(self):
        self.check(SITE, ALL_CARES, (), "")
        self.check(SITE, ALL_CARES, (GO, GO, BACK, NEXT, BACK, GO, DROP), "00000202020001")
        self.check(SITE, ALL_CARES, (GO, GO, BACK, DROP), "00000201")

    def test_the_last_deed_fails(self):
        self.check(SITE, (), (GO,), "00")
        self.check(SITE, (), (DROP,), "01")
        self.assertEqual(run(SITE, (), (GO,)).failure, ("steps", ()))
        for site, cares in ((WIDE, NOT_JOINT), (WIDE, ALL_CARES[2:]), (WIDE, ())):
            found = decide(site, cares)
            self.assertIsInstance(found, Fails)
            text = told_in(site, cares, found.history)
            self.check(site, cares, found.history, text)
            # Nothing is possible any more.
            for more in ("00", "ff"):
                self.assertEqual(offset_of(site, cares, text + more), len(found.history))

    def test_all_deeds_that_are_possible(self):
        deeds = list(Machine(WIDE).possible())
        self.assertGreater(len(deeds), 32)
        for number, deed in enumerate(deeds):
            self.check(WIDE, ALL_CARES, (deed,), format(number, "02x"))
        self.assertEqual(encode(WIDE, ALL_CARES, (deeds[15], )), "0f")
        self.assertEqual(encode(WIDE, ALL_CARES, (deeds[16], )), "10")
        self.assertEqual(encode(WIDE, ALL_CARES, (deeds[31], )), "1f")
        for number in range(len(deeds), 256):
            self.assertEqual(offset_of(WIDE, ALL_CARES, format(number, "02x")), 0)
        many = len(list(run(WIDE, ALL_CARES, deeds[:1]).possible()))
        self.assertEqual(offset_of(WIDE, ALL_CARES, "00" + format(many - 1, "02x")), "none")
        self.assertEqual(offset_of(WIDE, ALL_CARES, "00" + format(many, "02x") + "00"), 1)

    def test_any_histories(self):
        failed = 0
        for seed in range(200):
            chance = random.Random(seed)
            site, cares = any_site(chance), any_cares(chance)
            machine = Machine(site, cares=cares)
            while len(machine.past) < chance.choice([3, 10, 30]) and list(machine.possible()):
                machine.do(any_deed(chance, list(machine.possible())))
            self.check(site, cares, machine.past, told_in(site, cares, machine.past))
            failed += machine.failure is not None
            if machine.failure is not None:
                self.assertEqual(offset_of(site, cares, encode(site, cares, machine.past) + "00"), len(machine.past))
        self.assertGreater(failed, 10)

    def test_there_is_no_limit(self):
        history = (GO, BACK, NEXT) * 400
        self.check(SITE, ALL_CARES, history, told_in(SITE, ALL_CARES, history))

    def test_cares_in_any_order(self):
        self.assertEqual(encode(SITE, ["shares", "joint"], [GO, BACK]), "0002")
        self.assertEqual(decode(SITE, ("shares", "joint"), "0002"), (GO, BACK))


class Refused(unittest.TestCase):
    def test_sites_come_first(self):
        for value in NOT_SITES:
            for call in (
                lambda: encode(value, ALL_CARES, ()), lambda: encode(value, None, None), lambda: decode(value, ALL_CARES, ""),
                lambda: decode(value, None, None),
            ):
                with self.assertRaises(BadSite) as caught:
                    call()
                self.assertIsNone(caught.exception.part)

    def test_cares_come_next(self):
        for value in NOT_CARES:
            for more in ((), None, "", "x"):
                self.assertRaises(BadCares, encode, SITE, value, more)
                self.assertRaises(BadCares, decode, SITE, value, more)

    def test_histories(self):
        for value in (None, 0, True, "", "00", {}, {BACK: 1}, set(), object(), Anything(), SITE, range(0), iter(())):
            with self.assertRaises(BadHistory) as caught:
                encode(SITE, ALL_CARES, value)
            self.assertIsNone(caught.exception.index)
        for cares, history, index in (
            (ALL_CARES, (BACK,), 0), (ALL_CARES, [GO, NEXT], 1), ((), (GO, BACK), 1), ((), (GO, GO), 1),
            (ALL_CARES, (GO, ("go", ("y",), "b")), 1), (ALL_CARES, (("clear",),), 0), (ALL_CARES, (GO, BACK, BACK, None), 2),
        ):
            with self.assertRaises(BadHistory) as caught:
                encode(SITE, cares, history)
            self.assertEqual(caught.exception.index, index)

    def test_not_deeds(self):
        for value in NOT_DEEDS:
            for history in ((value,), [("reopen",), value], (("reopen",), value, None)):
                found = errors_of(encode, PLAIN_SITE, ALL_CARES, history)
                self.assertEqual(found, (BadHistory, {"index": len(history[:2]) - 1}))

    def test_no_pairs_of_digits(self):
        for value in (
            None, 0, 1, True, b"", b"00", [], ["00"], (), ("0", "0"), {}, set(), object(), Anything(), SITE, "0", "000", "00000",
            "0g", "g0", "0A", "A0", "FF", "0 ", " 0", "00 ", " 00", "00\n", "0\n", "0x", "-1", "+1", "00,01", "00 01", "\u0660\u0660",
            "\u00b20", "0\u00b2", "00\u00e9\u00e9", "..", "zz", "00zz", "ffzz", "zzff", "ff0", "  ", "\n\n", "0_", "\uff10\uff10",
        ):
            for cares in (ALL_CARES, ()):
                with self.assertRaises(BadDigits) as caught:
                    decode(SITE, cares, value)
                self.assertIsNone(caught.exception.offset)

    def test_numbers_that_are_too_great(self):
        deeds = list(Machine(SITE).possible())
        self.assertEqual(deeds, [GO, DROP])
        for text, offset in (
            ("02", 0), ("ff", 0), ("10", 0), ("20", 0), ("0003", 1), ("00020202", "none"), ("00020203", 3), ("000203", 2), ("0000020303", 3), ("01020000", 1),
            ("0100", 1), ("02ff", 0), ("0002ff00", 2), ("000200000202020303", 7), ("0001", "none"), ("00", "none"),
        ):
            self.assertEqual(offset_of(SITE, ALL_CARES, text), offset, text)

    def test_digits_behind_a_failure(self):
        for text, offset in (("00", "none"), ("0000", 1), ("0001", 1), ("000000", 1), ("00ff", 1), ("01", "none"), ("0100", 1)):
            self.assertEqual(offset_of(SITE, (), text), offset, text)

    def test_arguments_stay_as_they_are(self):
        history, cares = [GO, BACK], ["shares", "joint"]
        encode(SITE, cares, history)
        self.assertEqual([history, cares], [[GO, BACK], ["shares", "joint"]])

    def test_deeds_that_are_never_possible(self):
        never = [deed for deed in all_deeds(SITE) if deed not in (GO, DROP)]
        for deed in never:
            self.assertEqual(errors_of(encode, SITE, ALL_CARES, (deed,)), (BadHistory, {"index": 0}))


if __name__ == "__main__":
    unittest.main()
