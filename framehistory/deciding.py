"""Deciding whether any history fails, with evidence that can be checked."""

from framehistory.browsers import first_browser
from framehistory.checks import check_site, ordered_cares
from framehistory.errors import BadHistory
from framehistory.machines import Machine, difference, is_deed
from framehistory.records import first_record
from framehistory.searches import Search, key_of
from framehistory.states import machine_at, state_of


def decide(site, cares):
    """Return a Safe or a Fails."""
    search, history = explore(site, cares)
    if history is not None:
        return Fails(history)
    return Safe(search.finds)


def is_safe(site, cares):
    """Say whether no history fails."""
    _, history = explore(site, cares)
    return history is None


def count_states(site, cares):
    """Return the number of states to which histories lead, or 0 if some history fails."""
    search, history = explore(site, cares)
    return search.size() if history is None else 0


def run(site, cares, history):
    """Return the machine after a history, whose last deed may fail."""
    machine = Machine(site, cares=cares)
    if not isinstance(history, (list, tuple)):
        raise BadHistory(None)
    for index, deed in enumerate(history):
        if not is_deed(site, deed) or not machine.can(deed):
            raise BadHistory(index)
        machine.do(deed)
    return machine


class Safe:
    """No history fails: a list of states that no deed leaves, and in which no deed fails."""

    def __init__(self, states):
        self.states = list(states)

    def __eq__(self, other):
        return isinstance(other, Safe) and self.states == other.states

    def shows(self, site, cares):
        """Say whether the states show that no history fails."""
        check_site(site)
        return is_closed(site, ordered_cares(cares), self.states)


class Fails:
    """Some history fails: one of them."""

    def __init__(self, history):
        self.history = history

    def __eq__(self, other):
        return isinstance(other, Fails) and self.history == other.history

    def shows(self, site, cares):
        """Say whether the last deed of the history fails."""
        try:
            machine = run(site, cares, self.history)
        except BadHistory:
            return False
        return machine.failure is not None


def explore(site, cares):
    """Return a search that went through all states, and None; or as far as it went, and a history that fails."""
    check_site(site)
    record, browser = first_record(site), first_browser(site, ordered_cares(cares))
    search = Search(state_of(record, browser), (record, browser))
    begin = 0
    while begin < search.size():
        end = search.size()
        for index in range(begin, end):
            deed = _go_on(search, index)
            if deed is not None:
                return search, search.deeds_to(index) + (deed,)
        # Only now is it known that no history of this length fails.
        search.check_size()
        begin = end
    return search, None


def is_closed(site, cares, states):
    """Say whether states have the one at the beginning among them, and no deed leaves them or fails in them."""
    known = {key_of(row): True for row in states}
    if key_of(state_of(first_record(site), first_browser(site, cares))) not in known:
        return False
    for row in states:
        machine = machine_at(site, cares, row)
        if not _stays(machine.record, machine.browser, known):
            return False
    return True


def _go_on(search, index):
    """Take in what the deeds lead to from a find; return the first one that fails, or None."""
    record, browser = search.things[index]
    for deed in record.possible_deeds():
        right, shown = record.after(deed), browser.after(deed)
        if difference(right, shown) is not None:
            return deed
        # Once there are too many, it only matters whether a deed fails.
        if not search.is_too_large():
            search.take(state_of(right, shown), (right, shown), index, deed)
    return None


def _stays(record, browser, known):
    for deed in record.possible_deeds():
        right, shown = record.after(deed), browser.after(deed)
        if difference(right, shown) is not None or key_of(state_of(right, shown)) not in known:
            return False
    return True
