"""Spots: what a state has of the record."""

from framehistory.records import Record
from framehistory.trees import numbers_of


def spot_of(record):
    """Return the spot of a record: its trees with plain numbers, and the index of the current step."""
    numbers = {}
    trees = tuple([_plain_tree(tree, numbers) for tree in record.trees])
    return (trees, record.current)


def record_at(site, spot):
    """Return a record at a spot."""
    trees, current = spot
    fresh = 1 + max([number for tree in trees for number in numbers_of(tree)])
    return Record(site, trees, current, fresh)


def _plain_tree(tree, numbers):
    number, address, mark, frames = tree
    plain = numbers.setdefault(number, len(numbers))
    return (plain, address, mark, tuple([(name, _plain_tree(inner, numbers)) for name, inner in frames]))
