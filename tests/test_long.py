"""Longer histories, against the second reading of the document."""

import random
import unittest

from framehistory.machines import Machine, all_deeds
from framehistory.sites import ALL_CARES
from framehistory.states import machine_at, state
from tests.makers import any_cares, any_deed, any_site
from tests.reading import Reading


class AgainstReading(unittest.TestCase):
    def compare(self, machine, reading):
        self.assertEqual(list(machine.possible()), reading.possible(), machine.past)
        self.assertEqual(machine.shown(), reading.browser.shown(), machine.past)
        self.assertEqual(machine.counts(), reading.counts(), machine.past)
        self.assertEqual(machine.here, reading.record.here, machine.past)
        seen = [machine[step] for step in range(len(machine))]
        self.assertEqual(seen, [tree.seen() for tree in reading.record.steps], machine.past)
        if machine.failure is None:
            self.assertEqual(state(machine), reading.state(), machine.past)

    def follow(self, site, cares, chance, longest):
        machine, reading = Machine(site, cares=cares), Reading(site, cares)
        self.compare(machine, reading)
        while len(machine.past) < longest and reading.possible():
            deed = any_deed(chance, reading.possible())
            # Where cares are missing, most deeds soon fail: later ones are reached by going round them.
            if machine.copy().do(deed) is not None and chance.random() < 0.8:
                deed = any_deed(chance, reading.possible())
            self.assertEqual(machine.do(deed), reading.do(deed), machine.past)
            self.compare(machine, reading)
        return len(machine.past)

    def test_any_cares(self):
        lengths = []
        for seed in range(3000):
            chance = random.Random(seed)
            lengths.append(self.follow(any_site(chance), any_cares(chance), chance, 40))
        self.assertGreater(len([many for many in lengths if many == 40]), 400)

    def test_first_eight_cares_never_fail(self):
        for seed in range(300):
            chance = random.Random(-1 - seed)
            site = any_site(chance)
            machine = Machine(site, cares=ALL_CARES[:8])
            while len(machine.past) < 40 and list(machine.possible()):
                self.assertIsNone(machine.do(any_deed(chance, list(machine.possible()))), machine.past)

    def test_possible_is_what_can_be_done(self):
        for seed in range(60):
            chance = random.Random(seed)
            site = any_site(chance)
            machine = Machine(site, cares=any_cares(chance))
            deeds = all_deeds(site)
            for _ in range(12):
                found = list(machine.possible())
                self.assertEqual(found, [deed for deed in deeds if machine.can(deed)])
                if found:
                    machine.do(any_deed(chance, found))


class FromStates(unittest.TestCase):
    def agree(self, machine, other, chance, deep):
        self.assertEqual(state(machine), state(other))
        found = list(machine.possible())
        self.assertEqual(found, list(other.possible()))
        for deed in found if deep == 3 else chance.sample(found, min(3, len(found))):
            left, right = machine.copy(), other.copy()
            self.assertEqual(left.do(deed), right.do(deed))
            self.assertEqual(left.shown(), right.shown())
            self.assertEqual(left.counts(), right.counts())
            if left.failure is None and deep > 0:
                self.agree(left, right, chance, deep - 1)

    def test_machine_at_does_the_same(self):
        for seed in range(120):
            chance = random.Random(5000 + seed)
            site, cares = any_site(chance), any_cares(chance)
            machine = Machine(site, cares=cares)
            for _ in range(chance.randint(0, 15)):
                found = [deed for deed in machine.possible() if machine.copy().do(deed) is None]
                if found:
                    machine.do(any_deed(chance, found))
            other = machine_at(site, cares, state(machine))
            self.assertEqual(other.past, ())
            self.agree(machine, other, chance, 3)


if __name__ == "__main__":
    unittest.main()
