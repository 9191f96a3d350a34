"""A second reading of points [10], [12] and [13], over the second reading of record and browser.

It shares no code with the package. It knows no closed lists and no floors: it follows all histories, as far
as they lead to something new, and keeps the length of the shortest one to each state or spot.
"""

import pickle

from tests.reading import Reading


def twin(reading):
    return pickle.loads(pickle.dumps(reading))


class States:
    """All states to which histories lead: a dict from them to the lengths of the shortest histories.

    `failing` is a shortest history that fails, or None. It is not `complete` if those that are no longer lead to
    too many states.
    """

    def __init__(self, site, cares, *, most=100000):
        first = Reading(site, cares)
        self.lengths = {first.state(): 0}
        self.kept = {first.state(): kept_documents(first)}
        self.failing = None
        self.complete = True
        layer = [(first, ())]
        while layer and self.failing is None and self.complete:
            layer = [pair for reading, history in layer for pair in self.follow(reading, history)]
            self.complete = len(self.lengths) <= most

    def follow(self, reading, history):
        found = []
        for deed in reading.possible():
            other = twin(reading)
            if other.do(deed) is not None:
                self.failing = self.failing or history + (deed,)
                continue
            if other.state() not in self.lengths:
                self.lengths[other.state()] = len(history) + 1
                self.kept[other.state()] = kept_documents(other)
                found.append((other, history + (deed,)))
        return found


class Spots:
    """All spots to which deeds with some words lead from a machine's past: a dict from them to the distances.

    `goals` are those at which the goal is reached; what is farther away than the nearest of them is left out.
    It is not `complete` if those that are no farther away are too many.
    """

    def __init__(self, site, past, path, address, words, *, most=100000):
        first = Reading(site, ()).record
        for deed in past:
            first.do(deed)
        deeds = [deed for deed in Reading(site, ()).deeds if deed[0] in words]
        self.distances = {}
        self.goals = {}
        self.complete = True
        layer = [first]
        distance = 0
        while layer and not self.goals and self.complete:
            found = []
            for record in layer:
                spot = (record.plain(), record.here)
                if spot in self.distances:
                    continue
                self.distances[spot] = distance
                page = record.page(path)
                if page is not None and page.address == address:
                    self.goals[spot] = distance
                for deed in deeds:
                    if record.can(deed):
                        other = twin(record)
                        other.do(deed)
                        found.append(other)
            self.complete = len(self.distances) <= most
            layer = found
            distance += 1


def kept_documents(reading):
    return len([doc for doc in reading.browser.all_docs() if doc.kept])


def failure_of(site, cares, history):
    """Return the failure of the last deed of a history, or None if it does not fail; "no" if it is no history."""
    reading = Reading(site, cares)
    failure = None
    for deed in history:
        if deed not in reading.possible():
            return "no"
        failure = reading.do(deed)
    return failure


def answers_of(site, cares, deeds):
    """Return the answers to a list of deeds."""
    reading = Reading(site, cares)
    return [reading.do(deed) if deed in reading.possible() else "no" for deed in deeds]
