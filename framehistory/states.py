"""States: all that matters for what can follow."""

from framehistory.browsers import Browser
from framehistory.errors import BadMachine
from framehistory.machines import Machine
from framehistory.spots import record_at, spot_of


def state(machine):
    """Return the state of a machine."""
    check_machine(machine)
    return state_of(machine.record, machine.browser)


def machine_at(site, cares, state):
    """Return a machine in a state, without deeds so far."""
    machine = Machine(site, cares=cares)
    trees, here, many, index, frame = state
    machine.record = record_at(site, (trees, here))
    documents = {}
    entries = _entries_of(frame, documents)
    machine.browser = Browser(site, machine.cares, (0, many - 1, index), entries, documents)
    return machine


def check_machine(machine):
    """Refuse what is not a Machine, and one after a failure."""
    if not isinstance(machine, Machine) or machine.failure is not None:
        raise BadMachine("not a machine without a failure")


def state_of(record, browser):
    """Return the state that a record and a browser make up."""
    trees, here = spot_of(record)
    many, index = browser.step_counts()
    return (trees, here, many, index, _plain_frame(browser, browser.frame, {}))


def _plain_frame(browser, frame, numbers):
    rows = []
    for step, mark, number in frame:
        rows.append((max(step - browser.first, -1), mark, _plain_document(browser, number, numbers)))
    return tuple(rows)


def _plain_document(browser, number, numbers):
    if number in numbers:
        return numbers[number]
    numbers[number] = len(numbers)
    address, kept, frames = browser.documents[number]
    return (address, kept, tuple([(name, _plain_frame(browser, frame, numbers)) for name, frame in frames]))


def _entries_of(frame, documents):
    rows = []
    for step, mark, document in frame:
        rows.append((step, mark, _number_of(document, documents)))
    return tuple(rows)


def _number_of(document, documents):
    if isinstance(document, int):
        return document
    number = len(documents)
    address, kept, frames = document
    # The number is taken before the documents in the frames get theirs.
    documents[number] = (address, kept, ())
    documents[number] = (address, kept, tuple([(name, _entries_of(frame, documents)) for name, frame in frames]))
    return number
