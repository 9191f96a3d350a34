"""The errors of the package: one class for each kind of failure."""


class FrameError(ValueError):
    """Any error of this package."""


class BadSite(FrameError):
    """Not a site; part names what is wrong with its parameters, or is None if it is no Site at all."""

    def __init__(self, part):
        super().__init__(f"not a site: {part}")
        self.part = part


class BadCares(FrameError):
    """Not a list or tuple of different cares."""


class BadDeed(FrameError):
    """Not a deed of the site."""


class NotPossible(FrameError):
    """A deed that is not possible now."""


class BadStep(FrameError):
    """Not the index of a step of the record."""


class BadMachine(FrameError):
    """Not a machine, or one after a failure."""


class BadHistory(FrameError):
    """Not a history; index is that of its first wrong item, or None if it is no list or tuple."""

    def __init__(self, index):
        super().__init__(f"not a history: {index}")
        self.index = index


class TooLarge(FrameError):
    """There are more states or spots than can be gone through."""


class BadDeeds(FrameError):
    """Not a list of deeds, or not a journal."""


class BadPath(FrameError):
    """Not a path of the site."""


class BadAddress(FrameError):
    """Not an address of the site."""


class BadWords(FrameError):
    """Not a list or tuple of words of deeds."""


class NotSafe(FrameError):
    """Some history fails."""


class BadField(FrameError):
    """The fixed or the free cares are not as they should be."""


class BadCosts(FrameError):
    """Not costs of exactly the free cares."""


class NothingDone(FrameError):
    """There is no deed that could be undone."""


class BadText(FrameError):
    """Not a text of the kind asked for; row is the index of the first line that is wrong."""

    def __init__(self, row):
        super().__init__(f"not such a text: {row}")
        self.row = row


class BadDigits(FrameError):
    """Not the digits of a history; offset is the index of the first wrong pair, or None if there are no pairs."""

    def __init__(self, offset):
        super().__init__(f"not such digits: {offset}")
        self.offset = offset
