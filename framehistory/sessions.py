"""Sessions: a machine with a journal, undoing, branches and trials."""

from framehistory.errors import NothingDone
from framehistory.lists import answer_of, check_deeds
from framehistory.machines import Machine
from framehistory.sites import ALL_CARES


class Session:
    """A machine and the journal of its deeds."""

    def __init__(self, site, *, cares=ALL_CARES):
        self._now = Stand(Machine(site, cares=cares), [], 0, None)

    @property
    def journal(self):
        """The list of pairs of a deed and its answer."""
        return [(deed, answer) for deed, answer, _, _ in self._now.rows]

    def __len__(self):
        return len(self._now.rows)

    def machine(self):
        """Return a copy of the machine."""
        return self._now.engine.copy()

    def deed(self, deed):
        """Do a deed, if it is possible; return its answer."""
        engine = self._now.engine
        record, browser = engine.record, engine.browser
        answer = answer_of(engine, deed)
        self._now.rows.append((deed, answer, record, browser))
        return answer

    def undo(self):
        """Take back the last deed; return the pair of it and its answer."""
        now = self._now
        if len(now.rows) == now.start:
            raise NothingDone("there is nothing to take back here")
        deed, answer, record, browser = now.rows.pop()
        if answer != "no":
            now.engine.take_back(record, browser)
        return (deed, answer)

    def branch(self):
        """Return an independent session with the same machine and journal."""
        now = self._now
        other = Session(now.engine.site, cares=now.engine.cares)
        other._now = Stand(now.engine.copy(), now.rows, 0, None)
        return other

    def trial(self):
        """Return a Trial of this session, for a with-block."""
        return Trial(self)

    def begin_trial(self):
        """Go on with a copy, in which nothing of what was done so far can be undone."""
        now = self._now
        self._now = Stand(now.engine.copy(), now.rows, len(now.rows), now)

    def tried(self, deeds):
        """Return the list of the answers that a list of deeds would have."""
        engine = self.machine()
        check_deeds(engine.site, deeds)
        return [answer_of(engine, deed) for deed in deeds]


class Stand:
    """How a session stands, outside of trials or in one.

    The rows are (deed, answer, record, browser), with the record and the browser before the deed. Those from
    start on can be undone. The outer stand is what the session had when the trial began.
    """

    def __init__(self, engine, rows, start, outer):
        self.engine = engine
        self.rows = list(rows)
        self.start = start
        self.outer = outer


class Trial:
    """A with-block at whose end a session is as at its beginning."""

    def __init__(self, session):
        self._session = session

    def __enter__(self):
        self._session.begin_trial()
        return self._session

    def __exit__(self, kind, value, trace):
        session = self._session
        session._now = session._now.outer
