"""Routes: how soon deeds lead to a goal, by the record alone."""

from framehistory.checks import is_address, is_path
from framehistory.errors import BadAddress, BadPath, BadWords
from framehistory.searches import Search, key_of
from framehistory.spots import record_at, spot_of
from framehistory.states import check_machine
from framehistory.trees import tree_at

WORDS = ("go", "push", "back", "next", "drop", "clear", "reopen")


def route(machine, path, address, *, words=WORDS):
    """Return a Route or a NoRoute from a machine to a goal."""
    _check_goal(machine, path, address, words)
    search = Search(spot_of(machine.record), machine.record)
    begin = 0
    while begin < search.size():
        end = search.size()
        for index in range(begin, end):
            if _is_reached(search.things[index], path, address):
                return Route(search.deeds_to(index), _floors(search, search.depths[index]))
        search.check_size()
        for index in range(begin, end):
            _go_on(search, index, words)
        begin = end
    return NoRoute(search.finds)


class Route:
    """The deeds of a shortest route, and floors that show that there is no shorter one."""

    def __init__(self, deeds, floors):
        self.deeds = deeds
        # The document has spots themselves as the keys here; everywhere else, key_of stands for them.
        self.floors = {spot: floors[spot] for spot in floors}

    def __eq__(self, other):
        return isinstance(other, Route) and self.deeds == other.deeds and self.floors == other.floors

    def shows(self, machine, path, address, *, words=WORDS):
        """Say whether the deeds are a shortest route, and the floors show it."""
        _check_goal(machine, path, address, words)
        end = _end_of(machine.record, self.deeds, words)
        if end is None or not _is_reached(end, path, address):
            return False
        rows = list(self.floors.items())
        known = {key_of(spot): floor for spot, floor in rows}
        if known.get(key_of(spot_of(machine.record))) != len(self.deeds):
            return False
        for spot, floor in rows:
            record = record_at(machine.site, spot)
            if floor > 0 and (_is_reached(record, path, address) or not _is_floor(record, floor, known, words)):
                return False
        return True


class NoRoute:
    """No route: spots that no deed leaves, at none of which the goal is reached."""

    def __init__(self, spots):
        self.spots = list(spots)

    def __eq__(self, other):
        return isinstance(other, NoRoute) and self.spots == other.spots

    def shows(self, machine, path, address, *, words=WORDS):
        """Say whether the spots show that there is no route."""
        _check_goal(machine, path, address, words)
        known = {key_of(spot): True for spot in self.spots}
        if key_of(spot_of(machine.record)) not in known:
            return False
        for spot in self.spots:
            record = record_at(machine.site, spot)
            if _is_reached(record, path, address):
                return False
            if not all([key in known for key in _keys_after(record, words)]):
                return False
        return True


def _check_goal(machine, path, address, words):
    check_machine(machine)
    if not is_path(machine.site, path):
        raise BadPath("not a path of the site")
    if not is_address(machine.site, address):
        raise BadAddress("not an address of the site")
    if not isinstance(words, (list, tuple)) or not all([_is_word(word) for word in words]):
        raise BadWords("not a list or tuple of words of deeds")


def _is_word(value):
    return isinstance(value, str) and value in WORDS


def _is_reached(record, path, address):
    tree = tree_at(record.tree(), path)
    return tree is not None and tree[1] == address


def _deeds_from(record, words):
    return [deed for deed in record.possible_deeds() if deed[0] in words]


def _go_on(search, index, words):
    record = search.things[index]
    for deed in _deeds_from(record, words):
        after = record.after(deed)
        search.take(spot_of(after), after, index, deed)


def _floors(search, most):
    # A spot that is so many deeds away cannot be fewer than the rest of them before the goal.
    return {spot: most - depth for spot, depth in zip(search.finds, search.depths)}


def _end_of(record, deeds, words):
    """Return the record after deeds with some words, or None if one has no such word or is not possible."""
    for deed in deeds:
        if deed[0] not in words or not record.allows(deed):
            return None
        record = record.after(deed)
    return record


def _keys_after(record, words):
    return [key_of(spot_of(record.after(deed))) for deed in _deeds_from(record, words)]


def _is_floor(record, floor, known, words):
    return all([key in known and known[key] >= floor - 1 for key in _keys_after(record, words)])
