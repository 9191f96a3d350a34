"""Histories in pairs of digits."""

from framehistory.deciding import run
from framehistory.errors import BadDigits
from framehistory.machines import Machine

DIGITS = "0123456789abcdef"


def encode(site, cares, history):
    """Return the digits of a history, whose last deed may fail."""
    run(site, cares, history)
    machine = Machine(site, cares=cares)
    pairs = []
    for deed in history:
        deeds = list(machine.possible())
        pairs.append(_pair_of(deeds.index(deed)))
        machine.do(deed)
    return "".join(pairs)


def decode(site, cares, text):
    """Return the history that digits tell of."""
    machine = Machine(site, cares=cares)
    if not _are_pairs(text):
        raise BadDigits(None)
    for offset, number in enumerate(_numbers_of(text)):
        deeds = list(machine.possible())
        if number >= len(deeds):
            raise BadDigits(offset)
        machine.do(deeds[number])
    return machine.past


def _are_pairs(text):
    if not isinstance(text, str) or len(text) % 2 != 0:
        return False
    return all([digit in DIGITS for digit in text])


def _pair_of(number):
    return DIGITS[number // 16] + DIGITS[number % 16]


def _numbers_of(text):
    return [DIGITS.index(text[at]) * 16 + DIGITS.index(text[at + 1]) for at in range(0, len(text), 2)]
