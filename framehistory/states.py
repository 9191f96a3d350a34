"""States: all that matters for what can follow."""

from framehistory.browsers import Browser
from framehistory.errors import BadMachine
from framehistory.machines import Machine
from framehistory.records import Record
from framehistory.trees import numbers_of


def state(machine):
    """Return the state of a machine."""
    if not isinstance(machine, Machine) or machine.failure is not None:
        raise BadMachine("not a machine without a failure")
    numbers = {}
    trees = tuple([_plain_tree(tree, numbers) for tree in machine.record.trees])
    many, index = machine.counts()
    return (trees, machine.here, many, index, _plain_frame(machine.browser, machine.browser.frame, {}))


def machine_at(site, cares, state):
    """Return a machine in a state, without deeds so far."""
    machine = Machine(site, cares=cares)
    trees, here, many, index, frame = state
    fresh = 1 + max([number for tree in trees for number in numbers_of(tree)])
    machine.record = Record(site, trees, here, fresh)
    documents = {}
    entries = _entries_of(frame, documents)
    machine.browser = Browser(site, machine.cares, (0, many - 1, index), entries, documents)
    return machine


def _plain_tree(tree, numbers):
    number, address, mark, frames = tree
    plain = numbers.setdefault(number, len(numbers))
    return (plain, address, mark, tuple([(name, _plain_tree(inner, numbers)) for name, inner in frames]))


def _plain_frame(browser, frame, numbers):
    rows = []
    for step, mark, number in frame:
        rows.append((max(step - browser.first, -1), mark, _plain_document(browser, number, numbers)))
    return tuple(rows)


def _plain_document(browser, number, numbers):
    if number in numbers:
        return numbers[number]
    numbers[number] = len(numbers)
    address, kept, frames = browser.documents[number]
    return (address, kept, tuple([(name, _plain_frame(browser, frame, numbers)) for name, frame in frames]))


def _entries_of(frame, documents):
    rows = []
    for step, mark, document in frame:
        rows.append((step, mark, _number_of(document, documents)))
    return tuple(rows)


def _number_of(document, documents):
    if isinstance(document, int):
        return document
    number = len(documents)
    address, kept, frames = document
    # The number is taken before the documents in the frames get theirs.
    documents[number] = (address, kept, ())
    documents[number] = (address, kept, tuple([(name, _entries_of(frame, documents)) for name, frame in frames]))
    return number
