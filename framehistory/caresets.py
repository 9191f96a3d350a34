"""Sets of cares: tuples of different ones, in order."""


def all_sets(cares):
    """Return the list of all sets of some cares, by the numbers of their cares, then by the cares' indices."""
    return [chosen for many in range(len(cares) + 1) for chosen in _sets_of_size(cares, many)]


def has_all(cares, others):
    """Say whether a set of cares has all cares of another one."""
    return all([care in cares for care in others])


def _sets_of_size(cares, many):
    if many == 0:
        return [()]
    sets = []
    for index, care in enumerate(cares):
        sets.extend([(care,) + rest for rest in _sets_of_size(cares[index + 1:], many - 1)])
    return sets
