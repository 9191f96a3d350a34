"""How many documents are kept, after a history and after any history."""

from framehistory.deciding import explore, is_closed, run
from framehistory.errors import BadHistory, NotSafe
from framehistory.states import state


def count_kept(machine):
    """Return how many documents are kept in the state of a machine."""
    return _many_kept(state(machine))


def most_kept(site, cares):
    """Return a Peak, for cares with which no history fails."""
    search = _explore_all(site, cares)
    counts = [_many_kept(row) for row in search.finds]
    number = max(counts)
    return Peak(number, search.deeds_to(counts.index(number)), search.finds)


class Peak:
    """The greatest number of documents that are kept after any history, with a history and states that show it."""

    def __init__(self, number, history, states):
        self.number = number
        self.history = history
        self.states = list(states)

    def __eq__(self, other):
        return (
            isinstance(other, Peak)
            and self.number == other.number
            and self.history == other.history
            and self.states == other.states
        )

    def shows(self, site, cares):
        """Say whether the history leads to the number, and the states show that none leads to a greater one."""
        _explore_all(site, cares)
        return self._is_reached(site, cares) and self._is_greatest(site, cares)

    def _is_reached(self, site, cares):
        try:
            machine = run(site, cares, self.history)
        except BadHistory:
            return False
        return count_kept(machine) == self.number

    def _is_greatest(self, site, cares):
        if not all([_many_kept(row) <= self.number for row in self.states]):
            return False
        return is_closed(site, cares, self.states)


def _explore_all(site, cares):
    search, history = explore(site, cares)
    if history is not None:
        raise NotSafe("some history fails")
    return search


def _many_kept(row):
    return _kept_in(row[4])


def _kept_in(frame):
    many = 0
    for _, _, document in frame:
        # A number stands for a document that has been counted already.
        if isinstance(document, tuple):
            _, kept, frames = document
            many += int(kept) + sum([_kept_in(inner) for _, inner in frames])
    return many
