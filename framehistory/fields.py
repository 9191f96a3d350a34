"""Fields of cares: which sets of free cares are safe beside fixed ones, and which of them costs least."""

from framehistory.caresets import all_sets, has_all
from framehistory.checks import check_site, is_set
from framehistory.deciding import Fails, explore, is_safe
from framehistory.errors import BadCosts, BadField
from framehistory.records import first_record

MOST_FREE = 3
GREATEST_COST = 99


def family(site, fixed, free):
    """Return a Family."""
    _check_field(site, fixed, free)
    safe = []
    doubts = []
    for chosen in all_sets(free):
        history = _doubt_about(site, fixed + chosen, doubts)
        if history is None:
            safe.append(chosen)
        elif history not in doubts:
            doubts.append(history)
    return Family(safe, doubts)


def breaches(site, fixed, free):
    """Return the list of pairs of a safe set and one that is not, with one more care, in order."""
    safe = family(site, fixed, free).sets
    return [(less, more) for less, more in _growing_pairs(free) if less in safe and more not in safe]


def rescues(site, fixed, free):
    """Return the list of pairs of a set that is not safe and one that is, with one more care, in order."""
    safe = family(site, fixed, free).sets
    return [(less, more) for less, more in _growing_pairs(free) if less not in safe and more in safe]


def choose(site, fixed, free, costs):
    """Return a Chosen."""
    _check_field(site, fixed, free)
    _check_costs(free, costs)
    doubts = []
    for chosen in _by_costs(free, costs):
        history = _doubt_about(site, fixed + chosen, doubts)
        if history is None:
            return Chosen(chosen, doubts)
        if history not in doubts:
            doubts.append(history)
    return Chosen(None, doubts)


class Family:
    """All safe sets of the free cares, in order, and histories that refute the others."""

    def __init__(self, sets, doubts):
        self.sets = list(sets)
        self.doubts = list(doubts)

    def __eq__(self, other):
        return isinstance(other, Family) and self.sets == other.sets and self.doubts == other.doubts

    def least(self):
        """Return the list of the sets that contain no other one of them."""
        return [chosen for chosen in self.sets if not any([_is_part(less, chosen) for less in self.sets])]

    def greatest(self):
        """Return the list of the sets that no other one of them contains."""
        return [chosen for chosen in self.sets if not any([_is_part(chosen, more) for more in self.sets])]

    def shows(self, site, fixed, free):
        """Say whether the sets are all safe ones, in order, and the doubts refute the others."""
        _check_field(site, fixed, free)
        every = all_sets(free)
        if self.sets != [chosen for chosen in every if chosen in self.sets]:
            return False
        others = [chosen for chosen in every if chosen not in self.sets]
        return (
            _are_histories(site, self.doubts)
            and all([_is_refuted(site, fixed + chosen, self.doubts) for chosen in others])
            and all([is_safe(site, fixed + chosen) for chosen in self.sets])
        )


class Chosen:
    """The first of the safe sets that cost least, or None, and histories that refute those that cost less."""

    def __init__(self, found, doubts):
        self.found = found
        self.doubts = list(doubts)

    def __eq__(self, other):
        return isinstance(other, Chosen) and self.found == other.found and self.doubts == other.doubts

    def shows(self, site, fixed, free, costs):
        """Say whether what was found is the first safe set that costs least, and the doubts refute what costs less."""
        _check_field(site, fixed, free)
        _check_costs(free, costs)
        order = _by_costs(free, costs)
        if not _are_histories(site, self.doubts):
            return False
        if self.found is None:
            return all([_is_refuted(site, fixed + chosen, self.doubts) for chosen in order])
        if self.found not in order:
            return False
        cost = _cost(self.found, costs)
        earlier = order[:order.index(self.found)]
        lesser = [chosen for chosen in earlier if _cost(chosen, costs) < cost]
        # Sets of the same cost need no doubt; but if one of the earlier ones is safe, it should have been found.
        return (
            all([_is_refuted(site, fixed + chosen, self.doubts) for chosen in lesser])
            and not any([is_safe(site, fixed + chosen) for chosen in earlier[len(lesser):]])
            and is_safe(site, fixed + self.found)
        )


def _check_field(site, fixed, free):
    check_site(site)
    if not is_set(fixed) or not is_set(free):
        raise BadField("the fixed or the free cares are not a set")
    if len(free) > MOST_FREE or any([care in fixed for care in free]):
        raise BadField("too many free cares, or a fixed one among them")


def _check_costs(free, costs):
    if not isinstance(costs, dict) or len(costs) != len(free):
        raise BadCosts("not a dict from so many cares")
    if not all([isinstance(care, str) and care in free for care in costs]):
        raise BadCosts("not a dict from the free cares")
    if not all([_is_cost(worth) for worth in list(costs.values())]):
        raise BadCosts("not a dict to costs")


def _is_cost(value):
    return isinstance(value, int) and not isinstance(value, bool) and 0 <= value <= GREATEST_COST


def _cost(chosen, costs):
    return sum([costs[care] for care in chosen])


def _by_costs(free, costs):
    # Sorting leaves sets of the same cost in the order of all sets.
    return sorted(all_sets(free), key=lambda chosen: _cost(chosen, costs))


def _growing_pairs(free):
    sets = all_sets(free)
    return [(less, more) for less in sets for more in sets if len(more) == len(less) + 1 and has_all(more, less)]


def _is_part(cares, others):
    return cares != others and has_all(others, cares)


def _doubt_about(site, cares, doubts):
    """Return a history that fails with some cares, one of the doubts if one of them does; None if there is none."""
    for doubt in doubts:
        if Fails(doubt).shows(site, cares):
            return doubt
    _, history = explore(site, cares)
    return history


def _is_refuted(site, cares, doubts):
    return any([Fails(doubt).shows(site, cares) for doubt in doubts])


def _are_histories(site, doubts):
    return all([_is_history(site, doubt) for doubt in doubts])


def _is_history(site, deeds):
    # With which cares a deed fails differs from set to set; whether it is possible is up to the record.
    record = first_record(site)
    for deed in deeds:
        if not record.allows(deed):
            return False
        record = record.after(deed)
    return True
