"""Point [16] and framehistory/sessions.py."""

import contextlib
import random
import unittest

from framehistory.errors import BadCares, BadDeed, BadDeeds, BadSite, FrameError, NothingDone
from framehistory.machines import Machine, all_deeds
from framehistory.sessions import Session
from framehistory.sites import ALL_CARES, Site
from framehistory.states import state
from tests.makers import any_cares, any_deed, any_site
from tests.searching import answers_of
from tests.test_deeds import NOT_DEEDS, NOT_SITES
from tests.test_lists import NOT_LISTS
from tests.test_machines import NOT_CARES

EIGHT = ALL_CARES[:8]
X = ("x",)
GO, BACK, NEXT = ("go", X, "b"), ("back",), ("next",)
SITE = Site({"a": (("x", "b"),), "b": ()}, {"a": (), "b": ("b",)}, "a", drops=True, reopens=True)
# The site that is meant in test_deeds.NOT_DEEDS.
PLAIN_SITE = Site({"a": (("x", "b"),), "b": ()}, {"a": (), "b": ()}, "a")


def told(machine):
    """All that can be told of a machine."""
    seen = [machine[step] for step in range(len(machine))]
    more = [machine.failure, machine.past, machine.here, machine.shown(), machine.counts(), list(machine.possible())]
    return [machine.site, machine.cares, seen, more, None if machine.failure else state(machine)]


def all_told(session):
    return [session.journal, len(session), told(session.machine())]


def done(session, *deeds):
    for deed in deeds:
        session.deed(deed)
    return session


class Stop(Exception):
    pass


class Journals(unittest.TestCase):
    def test_the_beginning(self):
        session = Session(SITE)
        self.assertEqual([session.journal, len(session)], [[], 0])
        self.assertEqual(told(session.machine()), told(Machine(SITE)))
        self.assertEqual(Session(SITE, cares=["holds", "joint"]).machine().cares, ("joint", "holds"))
        self.assertEqual(Session(SITE, cares=()).machine().cares, ())
        self.assertIsInstance(session.journal, list)

    def test_answers(self):
        session = Session(SITE)
        self.assertEqual([session.deed(deed) for deed in (NEXT, GO, BACK, BACK, ("clear",))], ["no", None, None, "no", "no"])
        self.assertEqual(session.journal, [(NEXT, "no"), (GO, None), (BACK, None), (BACK, "no"), (("clear",), "no")])
        self.assertEqual(len(session), 5)
        self.assertEqual(session.machine().past, (GO, BACK))

    def test_failures(self):
        session = Session(SITE, cares=())
        self.assertEqual([session.deed(deed) for deed in (BACK, GO, GO, NEXT)], ["no", ("steps", ()), "no", "no"])
        self.assertEqual(session.journal, [(BACK, "no"), (GO, ("steps", ())), (GO, "no"), (NEXT, "no")])
        self.assertEqual([session.machine().past, session.machine().failure], [(GO,), ("steps", ())])

    def test_against_reading(self):
        kinds = {None: 0, "no": 0, "steps": 0, "shown": 0}
        for seed in range(200):
            chance = random.Random(seed)
            site, cares = any_site(chance), any_cares(chance)
            deeds = [any_deed(chance, all_deeds(site)) for _ in range(60)]
            session = Session(site, cares=cares)
            found = [session.deed(deed) for deed in deeds]
            self.assertEqual(found, answers_of(site, cares, deeds))
            self.assertEqual(session.journal, list(zip(deeds, found)))
            for answer in found:
                kinds[answer[0] if isinstance(answer, tuple) else answer] += 1
        self.assertGreater(min(kinds.values()), 5)

    def test_there_is_no_limit(self):
        session = Session(SITE)
        for _ in range(700):
            done(session, GO, BACK, NEXT)
        self.assertEqual([len(session), len(session.journal), len(session.machine().past)], [2100, 2100, 2100])
        for _ in range(2100):
            session.undo()
        self.assertEqual(told(session.machine()), told(Machine(SITE)))

    def test_machines_are_copies(self):
        session = done(Session(SITE), GO)
        before = all_told(session)
        machine = session.machine()
        self.assertIsNone(machine.do(BACK))
        self.assertEqual(all_told(session), before)
        machine = session.machine()
        session.deed(BACK)
        self.assertEqual(told(machine), before[2])

    def test_journals_are_new(self):
        session = done(Session(SITE), GO)
        session.journal.append((BACK, None))
        session.journal.clear()
        kept = session.journal
        session.deed(BACK)
        self.assertEqual([kept, session.journal], [[(GO, None)], [(GO, None), (BACK, None)]])
        session.undo()
        self.assertEqual([kept, session.journal], [[(GO, None)]] * 2)

    def test_cares_are_neither_kept_nor_modified(self):
        cares = ["holds", "joint"]
        session = Session(SITE, cares=cares)
        cares.clear()
        self.assertEqual(session.machine().cares, ("joint", "holds"))

    def test_a_journal_cannot_be_assigned(self):
        with self.assertRaises(AttributeError):
            Session(SITE).journal = []


class Undoing(unittest.TestCase):
    def test_each_kind_of_answer(self):
        session = Session(SITE, cares=ALL_CARES[1:])
        stages = [all_told(session)]
        for deed in (NEXT, ("reopen",), ("drop", X), BACK, ("reopen",), GO):
            session.deed(deed)
            stages.append(all_told(session))
        other = done(Session(SITE, cares=ALL_CARES[1:]), NEXT, GO, GO, BACK)
        self.assertEqual([answer for _, answer in other.journal], ["no", ("steps", ()), "no", "no"])
        for session in (session, other):
            journal = session.journal
            while journal:
                self.assertEqual(session.undo(), journal.pop())
                self.assertEqual(session.journal, journal)
                again = done(Session(SITE, cares=ALL_CARES[1:]), *[deed for deed, _ in journal])
                self.assertEqual(all_told(session), all_told(again))
            self.assertEqual(all_told(session), stages[0])

    def test_a_failure(self):
        session = done(Session(SITE, cares=()), ("drop", X))
        self.assertEqual(session.undo(), (("drop", X), None))
        done(session, GO, BACK)
        self.assertEqual(session.undo(), (BACK, "no"))
        self.assertEqual(session.machine().failure, ("steps", ()))
        self.assertEqual(session.undo(), (GO, ("steps", ())))
        self.assertEqual([session.machine().failure, session.machine().past, len(session)], [None, (), 0])
        self.assertEqual(session.deed(("reopen",)), None)

    def test_pairs(self):
        session = done(Session(SITE), GO, NEXT)
        self.assertIsInstance(session.undo(), tuple)
        self.assertEqual(session.undo(), (GO, None))

    def test_nothing_is_left(self):
        session = Session(SITE)
        for _ in range(2):
            before = all_told(session)
            for _ in range(2):
                with self.assertRaises(NothingDone):
                    session.undo()
            self.assertEqual(all_told(session), before)
            done(session, BACK, GO)
            session.undo()
            session.undo()

    def test_any_sessions(self):
        for seed in range(60):
            chance = random.Random(seed)
            session, stages = Session(any_site(chance), cares=any_cares(chance)), []
            deeds = all_deeds(session.machine().site)
            for _ in range(60):
                if stages and chance.random() < 0.4:
                    row = session.journal[-1]
                    self.assertEqual(session.undo(), row)
                    self.assertEqual(all_told(session), stages.pop())
                else:
                    stages.append(all_told(session))
                    possible = list(session.machine().possible())
                    session.deed(any_deed(chance, possible if possible and chance.random() < 0.8 else deeds))
                self.assertEqual(len(session), len(stages))
            while stages:
                session.undo()
                self.assertEqual(all_told(session), stages.pop())


class Branches(unittest.TestCase):
    def test_the_same_at_first(self):
        for cares in (ALL_CARES, ()):
            session = done(Session(SITE, cares=cares), NEXT, GO, BACK)
            other = session.branch()
            self.assertIsInstance(other, Session)
            self.assertEqual(all_told(other), all_told(session))

    def test_independent(self):
        session = done(Session(SITE), GO)
        other = session.branch()
        before = all_told(session)
        done(other, BACK, ("drop", X))
        self.assertEqual(all_told(session), before)
        before = all_told(other)
        session.undo()
        self.assertEqual([all_told(other), session.journal], [before, []])
        session.deed(("reopen",))
        while len(other):
            other.undo()
        self.assertEqual([session.journal, told(other.machine())], [[(("reopen",), None)], told(Machine(SITE))])

    def test_all_can_be_undone(self):
        session = done(Session(SITE, cares=()), NEXT, GO, BACK)
        other = session.branch()
        self.assertEqual([other.undo() for _ in range(3)], [(BACK, "no"), (GO, ("steps", ())), (NEXT, "no")])
        with self.assertRaises(NothingDone):
            other.undo()
        self.assertEqual(len(session), 3)

    def test_within_a_trial(self):
        session = done(Session(SITE), GO)
        with session.trial():
            session.deed(BACK)
            other = session.branch()
            self.assertEqual(all_told(other), all_told(session))
            session.deed(NEXT)
            with other.trial():
                with self.assertRaises(NothingDone):
                    other.undo()
        self.assertEqual(other.journal, [(GO, None), (BACK, None)])
        other.deed(NEXT)
        self.assertEqual([other.undo() for _ in range(3)], [(NEXT, None), (BACK, None), (GO, None)])
        self.assertEqual(told(other.machine()), told(Machine(SITE)))
        self.assertEqual(session.journal, [(GO, None)])
        self.assertEqual(session.undo(), (GO, None))

    def test_of_branches(self):
        first = done(Session(SITE), GO)
        second = done(first.branch(), BACK)
        third = done(second.branch(), NEXT)
        second.undo()
        self.assertEqual([len(one) for one in (first, second, third)], [1, 1, 3])


class Trials(unittest.TestCase):
    def test_the_session_itself(self):
        session = done(Session(SITE), GO)
        before = all_told(session)
        with session.trial() as inner:
            self.assertIs(inner, session)
            self.assertEqual(all_told(session), before)
            self.assertEqual([inner.deed(BACK), inner.deed(BACK)], [None, "no"])
            self.assertEqual(session.journal, [(GO, None), (BACK, None), (BACK, "no")])
            self.assertEqual([len(session), session.machine().past], [3, (GO, BACK)])
        self.assertEqual(all_told(session), before)
        self.assertEqual(session.undo(), (GO, None))

    def test_nothing_happens_before_the_block(self):
        session = done(Session(SITE), GO)
        trial = session.trial()
        self.assertEqual(session.undo(), (GO, None))
        session.deed(("drop", X))
        before = all_told(session)
        with trial as inner:
            inner.deed(("reopen",))
        self.assertEqual(all_told(session), before)
        self.assertEqual(len(session), 1)

    def test_left_by_a_return(self):
        session = done(Session(SITE), GO)
        before = all_told(session)

        def leave():
            with session.trial() as inner:
                return inner.deed(BACK)

        def last_of_a_loop():
            for deed in (BACK, NEXT):
                with session.trial() as inner:
                    inner.deed(deed)
                    if deed == BACK:
                        continue
                    break
            return deed

        self.assertEqual([leave(), last_of_a_loop()], [None, NEXT])
        self.assertEqual(all_told(session), before)

    def test_left_by_an_error(self):
        session = done(Session(SITE), GO)
        before = all_told(session)
        for error in (Stop(), ValueError("x"), KeyboardInterrupt(), SystemExit(3), StopIteration()):
            with self.assertRaises(error.__class__) as caught:
                with session.trial() as inner:
                    inner.deed(BACK)
                    inner.deed(("drop", X))
                    raise error
            self.assertIs(caught.exception, error)
            self.assertEqual(all_told(session), before)

    def test_left_by_an_error_of_the_session(self):
        session = done(Session(SITE), GO)
        before = all_told(session)
        with self.assertRaises(BadDeed):
            with session.trial() as inner:
                inner.deed(BACK)
                inner.deed(("go", (), "q"))
        self.assertEqual(all_told(session), before)
        with self.assertRaises(NothingDone):
            with session.trial() as inner:
                inner.undo()
        self.assertEqual(all_told(session), before)

    def test_left_with_a_failure(self):
        session = done(Session(SITE, cares=()), NEXT)
        before = all_told(session)
        with session.trial() as inner:
            self.assertEqual(inner.deed(GO), ("steps", ()))
        self.assertEqual(all_told(session), before)
        session.deed(GO)
        before = all_told(session)
        with session.trial() as inner:
            self.assertEqual(inner.deed(("reopen",)), "no")
        self.assertEqual(all_told(session), before)
        self.assertEqual(session.undo(), (GO, ("steps", ())))

    def test_what_can_be_undone(self):
        session = done(Session(SITE), NEXT, GO)
        before = all_told(session)
        with session.trial():
            with self.assertRaises(NothingDone):
                session.undo()
            self.assertEqual(all_told(session), before)
            done(session, BACK, BACK)
            self.assertEqual([session.undo(), session.undo()], [(BACK, "no"), (BACK, None)])
            self.assertEqual(all_told(session), before)
            with self.assertRaises(NothingDone):
                session.undo()
        self.assertEqual([session.undo(), session.undo()], [(GO, None), (NEXT, "no")])

    def test_within_one_another(self):
        session = done(Session(SITE), GO)
        first = all_told(session)
        with session.trial():
            session.deed(BACK)
            second = all_told(session)
            with session.trial() as inner:
                with self.assertRaises(NothingDone):
                    session.undo()
                inner.deed(NEXT)
                third = all_told(session)
                with self.assertRaises(Stop):
                    with inner.trial():
                        inner.deed(("drop", X))
                        raise Stop
                self.assertEqual(all_told(session), third)
                self.assertEqual(inner.undo(), (NEXT, None))
            self.assertEqual(all_told(session), second)
            self.assertEqual(session.undo(), (BACK, None))
            self.assertEqual(all_told(session), first)
            with self.assertRaises(NothingDone):
                session.undo()
        self.assertEqual(all_told(session), first)
        self.assertEqual(session.undo(), (GO, None))

    def test_an_error_through_several(self):
        session = done(Session(SITE), GO)
        before = all_told(session)
        with self.assertRaises(Stop):
            with session.trial():
                session.deed(BACK)
                with session.trial():
                    session.deed(NEXT)
                    raise Stop
        self.assertEqual(all_told(session), before)

    def test_one_trial_several_times(self):
        session = Session(SITE)
        trial = session.trial()
        for deed in (GO, ("drop", X)):
            session.deed(deed)
            before = all_told(session)
            with trial:
                session.deed(BACK)
                middle = all_told(session)
                with trial:
                    session.deed(("reopen",))
                self.assertEqual(all_told(session), middle)
            self.assertEqual(all_told(session), before)

    def test_several_sessions(self):
        first, second = done(Session(SITE), GO), Session(SITE, cares=())
        before = [all_told(first), all_told(second)]
        with first.trial(), second.trial():
            done(first, BACK)
            done(second, GO)
        self.assertEqual([all_told(first), all_told(second)], before)

    def test_any_sessions(self):
        deepest = 0
        for seed in range(60):
            chance = random.Random(seed)
            session, stages = Session(any_site(chance), cares=any_cares(chance)), []
            deeds = all_deeds(session.machine().site)
            with contextlib.ExitStack() as outermost:
                stacks = [outermost]
                for _ in range(60):
                    what = chance.random()
                    if what < 0.15:
                        stages.append(all_told(session))
                        stacks.append(contextlib.ExitStack())
                        stacks[-1].enter_context(session.trial())
                    elif what < 0.28 and stages:
                        stacks.pop().close()
                        self.assertEqual(all_told(session), stages.pop())
                    elif what < 0.5:
                        least = len(stages[-1][0]) if stages else 0
                        if len(session) > least:
                            self.assertEqual(session.journal[-1], session.undo())
                        else:
                            self.assertRaises(NothingDone, session.undo)
                    else:
                        possible = list(session.machine().possible())
                        session.deed(any_deed(chance, possible if possible and chance.random() < 0.8 else deeds))
                    again = done(Session(session.machine().site, cares=session.machine().cares),
                                 *[deed for deed, _ in session.journal])
                    self.assertEqual(all_told(again), all_told(session))
                    deepest = max(deepest, len(stages))
                while stages:
                    stacks.pop().close()
                    self.assertEqual(all_told(session), stages.pop())
        self.assertGreater(deepest, 3)


class Tried(unittest.TestCase):
    def test_answers(self):
        session = done(Session(SITE), NEXT, GO)
        before = all_told(session)
        found = session.tried([BACK, BACK, NEXT, ("drop", X)])
        self.assertEqual(found, [None, "no", None, None])
        self.assertIsInstance(found, list)
        self.assertEqual(session.tried((BACK,)), [None])
        self.assertEqual(session.tried([]), [])
        self.assertEqual(all_told(session), before)

    def test_failures(self):
        session = Session(SITE, cares=())
        self.assertEqual(session.tried([("reopen",), GO, GO, BACK]), [None, ("steps", ()), "no", "no"])
        self.assertEqual(session.deed(GO), ("steps", ()))
        self.assertEqual(session.tried([BACK, ("reopen",)]), ["no", "no"])
        self.assertEqual(session.journal, [(GO, ("steps", ()))])

    def test_within_a_trial(self):
        session = done(Session(SITE), GO)
        with session.trial():
            session.deed(BACK)
            self.assertEqual(session.tried([BACK, NEXT]), ["no", None])
            self.assertEqual(session.undo(), (BACK, None))
            self.assertEqual(session.tried([BACK, NEXT]), [None, None])
            self.assertRaises(NothingDone, session.undo)

    def test_at_most_forty(self):
        session = Session(SITE)
        for kind in (list, tuple):
            self.assertEqual(session.tried(kind([NEXT] * 40)), ["no"] * 40)
            self.assertRaises(BadDeeds, session.tried, kind([NEXT] * 41))

    def test_arguments_stay_as_they_are(self):
        deeds = [GO, BACK]
        found = Session(SITE).tried(deeds)
        found.clear()
        self.assertEqual(deeds, [GO, BACK])


class Errors(unittest.TestCase):
    def test_sites_come_first(self):
        for value in NOT_SITES:
            for cares in (ALL_CARES, None):
                with self.assertRaises(BadSite) as caught:
                    Session(value, cares=cares)
                self.assertIsNone(caught.exception.part)

    def test_cares(self):
        for value in NOT_CARES:
            with self.assertRaises(BadCares):
                Session(SITE, cares=value)
        self.assertRaises(TypeError, Session, SITE, ALL_CARES)

    def test_not_deeds(self):
        for cares in (ALL_CARES, ()):
            session = done(Session(PLAIN_SITE, cares=cares), BACK)
            before = all_told(session)
            for value in NOT_DEEDS:
                self.assertRaises(BadDeed, session.deed, value)
                self.assertEqual(all_told(session), before)

    def test_not_deeds_after_a_failure(self):
        session = done(Session(SITE, cares=()), GO)
        before = all_told(session)
        for value in (("go", (), "q"), ("drop", ()), None, "back"):
            self.assertRaises(BadDeed, session.deed, value)
            self.assertRaises(BadDeeds, session.tried, [value])
        self.assertEqual(all_told(session), before)

    def test_not_lists(self):
        session = done(Session(SITE), GO)
        before = all_told(session)
        for value in NOT_LISTS:
            self.assertRaises(BadDeeds, session.tried, value)
        session = done(Session(PLAIN_SITE), BACK)
        for value in NOT_DEEDS:
            for deeds in ([value], (BACK, value), [BACK, value, BACK]):
                self.assertRaises(BadDeeds, session.tried, deeds)
        self.assertEqual(session.journal, [(BACK, "no")])
        self.assertEqual(all_told(done(Session(SITE), GO)), before)

    def test_refused_deeds_in_a_trial(self):
        session = done(Session(SITE), GO)
        with session.trial():
            session.deed(BACK)
            before = all_told(session)
            for call in (lambda: session.deed(None), lambda: session.tried([None]), lambda: session.tried([GO] * 41)):
                self.assertRaises(FrameError, call)
                self.assertEqual(all_told(session), before)
            self.assertEqual(session.undo(), (BACK, None))


if __name__ == "__main__":
    unittest.main()
