"""Machines: a record and a browser that do the same deeds."""

from framehistory.browsers import first_browser
from framehistory.checks import check_site, is_address, is_path, ordered_cares
from framehistory.errors import BadDeed, BadStep, NotPossible
from framehistory.records import first_record
from framehistory.sites import ALL_CARES
from framehistory.trees import seen_tree

PLAIN_WORDS = ("back", "next", "clear", "reopen")


def all_deeds(site):
    """Return the list of all deeds of a site, possible or not."""
    check_site(site)
    paths = all_paths(site)
    deeds = [("go", path, address) for path in paths for address in site.addresses()]
    deeds.extend([("push", path) for path in paths])
    deeds.extend([("drop", path) for path in paths if path != ()])
    deeds.extend([(word,) for word in PLAIN_WORDS])
    return deeds


def all_paths(site):
    """Return the list of all paths with at most two names of frames of any pages, by their lengths, then as tuples."""
    names = site.frame_names()
    return [()] + [(name,) for name in names] + [(name, inner) for name in names for inner in names]


def is_deed(site, value):
    """Say whether a value, of any kind, is a deed of a site, possible or not."""
    check_site(site)
    if not isinstance(value, tuple) or not 1 <= len(value) <= 3 or not isinstance(value[0], str):
        return False
    word = value[0]
    if len(value) == 1:
        return word in PLAIN_WORDS
    if not is_path(site, value[1]):
        return False
    if len(value) == 3:
        return word == "go" and is_address(site, value[2])
    return word == "push" or (word == "drop" and value[1] != ())


class Machine:
    """A record and a browser, from the beginning on."""

    def __init__(self, site, *, cares=ALL_CARES):
        check_site(site)
        self._cares = ordered_cares(cares)
        self._site = site
        self._past = []
        self._failure = None
        self.record = first_record(site)
        self.browser = first_browser(site, self._cares)

    @property
    def site(self):
        """The site."""
        return self._site

    @property
    def cares(self):
        """The cares of the browser, in order."""
        return self._cares

    @property
    def failure(self):
        """The failure of the last deed, or None."""
        return self._failure

    @property
    def past(self):
        """The tuple of the deeds so far."""
        return tuple(self._past)

    @property
    def here(self):
        """The index of the current step in the record."""
        return self.record.current

    def __len__(self):
        return len(self.record.trees)

    def __getitem__(self, at):
        trees = self.record.trees
        if not isinstance(at, int) or isinstance(at, bool) or not 0 <= at < len(trees):
            raise BadStep("not the index of a step")
        return seen_tree(trees[at])

    def __iter__(self):
        raise TypeError("a machine is not iterated over")

    def do(self, deed):
        """Do a deed; return the failure or None."""
        if not self.can(deed):
            raise NotPossible("the deed is not possible now")
        self.record = self.record.after(deed)
        self.browser = self.browser.after(deed)
        self._past.append(deed)
        self._failure = difference(self.record, self.browser)
        return self._failure

    def can(self, deed):
        """Say whether a deed is possible."""
        if not is_deed(self._site, deed):
            raise BadDeed("not a deed of the site")
        return self._failure is None and self.record.allows(deed)

    def possible(self):
        """Yield the deeds that are possible, in the order of all_deeds."""
        if self._failure is None:
            for deed in self.record.possible_deeds():
                yield deed

    def copy(self):
        """Return an independent machine for which the same is possible."""
        twin = Machine(self._site, cares=self._cares)
        twin.record = self.record
        twin.browser = self.browser
        twin._past = list(self._past)
        twin._failure = self._failure
        return twin

    def take_back(self, record, browser):
        """Take back the last deed, before which there were this record and this browser."""
        self._past.pop()
        # It was possible, so there was no failure before it.
        self._failure = None
        self.record = record
        self.browser = browser

    def shown(self):
        """Return what the browser shows: (address, state, frames)."""
        return self.browser.view(self.browser.frame)

    def counts(self):
        """Return the pair of the number of steps of the browser and the index of its current one."""
        return self.browser.step_counts()


def difference(record, browser):
    """Return the failure that a record and a browser show after a deed, or None."""
    if browser.step_counts() != (len(record.trees), record.current):
        return ("steps", ())
    path = _first_difference(seen_tree(record.tree()), browser.view(browser.frame), ())
    if path is None:
        return None
    return ("shown", path)


def _first_difference(right, shown, path):
    if right == shown:
        return None
    address, state, frames = right
    names = [name for name, _ in frames]
    if (address, state) != shown[:2] or names != [name for name, _ in shown[2]]:
        return path
    for (name, inner), (_, other) in zip(frames, shown[2]):
        found = _first_difference(inner, other, path + (name,))
        if found is not None:
            return found
    return None
