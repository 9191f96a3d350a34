"""Going from a beginning to all that deeds lead to, the nearest first."""

from framehistory.errors import TooLarge

LIMIT = 3000


def key_of(value):
    """Return the key of a state or a spot."""
    # They are nested too deeply to be keys themselves.
    return repr(value)


class Search:
    """What has been found so far: states or spots, each once, with what is there and the deeds that lead to it.

    The lists of the finds (states or spots), of the things (what is there) and of the depths (how many deeds
    lead there) go together: an index stands for the same find in each of them.
    """

    def __init__(self, find, thing):
        self.finds = [find]
        self.things = [thing]
        self.depths = [0]
        self._ways = [None]
        self._known = {key_of(find): True}

    def take(self, find, thing, before, deed):
        """Take in what a deed leads to from an earlier find, if it is new."""
        key = key_of(find)
        if key not in self._known:
            self._known[key] = True
            self.finds.append(find)
            self.things.append(thing)
            self.depths.append(self.depths[before] + 1)
            self._ways.append((before, deed))

    def size(self):
        """Return the number of the finds."""
        return len(self.things)

    def is_too_large(self):
        """Say whether more has been found than can be gone through."""
        return len(self.things) > LIMIT

    def check_size(self):
        """Refuse to go on if more has been found than can be gone through."""
        if self.is_too_large():
            raise TooLarge(f"more than {LIMIT} states or spots")

    def deeds_to(self, index):
        """Return the tuple of the deeds that lead to a find."""
        deeds = []
        way = self._ways[index]
        while way is not None:
            before, deed = way
            deeds.append(deed)
            way = self._ways[before]
        deeds.reverse()
        return tuple(deeds)
