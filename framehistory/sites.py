"""Sites: pages with their frames and links, and what a site allows."""

from framehistory.errors import BadSite

ALL_CARES = ("joint", "prunes", "nests", "names", "states", "merges", "covers", "shares", "holds")


class Site:
    """A site; it never changes."""

    def __init__(self, frames, links, home, *, cap=3, pushes=(), drops=False, clears=False, reopens=False):
        _require(_are_frames(frames), "FRAMES")
        _require(_are_links(links, frames), "LINKS")
        _require(_is_key(home, frames), "HOME")
        _require(_is_cap(cap), "CAP")
        _require(_are_addresses(pushes, frames), "PUSHES")
        _require(isinstance(drops, bool), "DROPS")
        _require(isinstance(clears, bool), "CLEARS")
        _require(isinstance(reopens, bool), "REOPENS")
        self._frames = {address: _plain_pairs(frames[address]) for address in sorted(frames)}
        self._links = {address: tuple(sorted(links[address])) for address in sorted(links)}
        self._home = home
        self._cap = cap
        self._pushes = tuple(sorted(pushes))
        self._drops = drops
        self._clears = clears
        self._reopens = reopens
        self._depths = {address: _depth(self._frames, address) for address in self._frames}
        self._names = tuple(sorted({name for rows in list(self._frames.values()) for name, _ in rows}))

    @property
    def frames(self):
        """A dict from the addresses, ascending, to the frames of the pages."""
        return dict(self._frames)

    @property
    def links(self):
        """A dict from the addresses, ascending, to the links of the pages, ascending."""
        return dict(self._links)

    @property
    def home(self):
        """The address of the page at the beginning."""
        return self._home

    @property
    def cap(self):
        """The greatest number of steps."""
        return self._cap

    @property
    def pushes(self):
        """The addresses of the pages that can push, ascending."""
        return self._pushes

    @property
    def drops(self):
        """Whether frames can be dropped."""
        return self._drops

    @property
    def clears(self):
        """Whether pages can be thrown away."""
        return self._clears

    @property
    def reopens(self):
        """Whether all can be closed and opened again."""
        return self._reopens

    def __eq__(self, other):
        return (
            isinstance(other, Site)
            and self._frames == other._frames
            and self._links == other._links
            and self._home == other._home
            and self._cap == other._cap
            and self._pushes == other._pushes
            and self._drops == other._drops
            and self._clears == other._clears
            and self._reopens == other._reopens
        )

    def addresses(self):
        """Return the list of the addresses, ascending."""
        return list(self._frames)

    def frame_names(self):
        """Return the tuple of the names of frames of any pages, ascending."""
        return self._names

    def frames_of(self, address):
        """Return the frames of a page."""
        return self._frames[address]

    def links_of(self, address):
        """Return the links of a page, ascending."""
        return self._links[address]

    def depth_of(self, address):
        """Return the number of names of the longest path in a page that has been loaded just now."""
        return self._depths[address]


def is_name(value):
    """Say whether a value is a name, of a frame or as an address."""
    return isinstance(value, str) and 1 <= len(value) <= 8 and all(["a" <= letter <= "z" for letter in value])


def _require(right, part):
    if not right:
        raise BadSite(part)


def _is_key(value, frames):
    # Only strings are looked up: other values may not be possible as keys.
    return isinstance(value, str) and value in frames


def _are_frames(value):
    if not isinstance(value, dict) or not 1 <= len(value) <= 4:
        return False
    if not all([is_name(address) for address in value]):
        return False
    return all([_are_pairs(value[address], value) for address in value]) and _is_shallow(value)


def _are_pairs(rows, frames):
    if not isinstance(rows, tuple) or len(rows) > 2:
        return False
    if not all([_is_pair(row, frames) for row in rows]):
        return False
    return len({row[0] for row in rows}) == len(rows)


def _is_pair(row, frames):
    return isinstance(row, tuple) and len(row) == 2 and is_name(row[0]) and _is_key(row[1], frames)


def _is_shallow(frames):
    # A page that is loaded within itself has paths of any length, so this refuses it too.
    inner = {address: [page for _, page in frames[address]] for address in frames}
    ends = [third for first in inner for second in inner[first] for third in inner[second]]
    return all([inner[address] == [] for address in ends])


def _are_links(value, frames):
    if not isinstance(value, dict) or len(value) != len(frames):
        return False
    return all([address in value and _are_addresses(value[address], frames) for address in frames])


def _are_addresses(value, frames):
    if not isinstance(value, tuple) or not all([_is_key(address, frames) for address in value]):
        return False
    return len(set(value)) == len(value)


def _is_cap(value):
    return isinstance(value, int) and not isinstance(value, bool) and 2 <= value <= 4


def _plain_pairs(rows):
    return tuple([(name, address) for name, address in rows])


def _depth(frames, address):
    return max([1 + _depth(frames, page) for _, page in frames[address]], default=0)
