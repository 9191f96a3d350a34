"""Trees of the record: (number, address, state, frames), with pairs of a name and a tree as frames."""


def loaded_tree(site, address, fresh):
    """Return the tree of a page that is loaded now, with numbers from fresh on, and the next free number."""
    number = fresh
    fresh += 1
    frames = []
    for name, page in site.frames_of(address):
        tree, fresh = loaded_tree(site, page, fresh)
        frames.append((name, tree))
    return (number, address, 0, tuple(frames)), fresh


def tree_at(tree, path):
    """Return the tree in the frame at a path, or None if there is no such frame."""
    for name in path:
        inner = [part for word, part in tree[3] if word == name]
        if inner == []:
            return None
        tree = inner[0]
    return tree


def replaced(tree, path, part):
    """Return a tree with another one in the frame at a path."""
    if path == ():
        return part
    number, address, state, frames = tree
    rest = path[1:]
    rows = [(name, replaced(inner, rest, part) if name == path[0] else inner) for name, inner in frames]
    return (number, address, state, tuple(rows))


def without_frame(tree, page, lost):
    """Return a tree in which each page with the number has lost the frame with the name."""
    number, address, state, frames = tree
    rows = [(name, without_frame(inner, page, lost)) for name, inner in frames if number != page or name != lost]
    return (number, address, state, tuple(rows))


def seen_tree(tree):
    """Return what is seen of a tree: (address, state, frames)."""
    _, address, state, frames = tree
    return (address, state, tuple([(name, seen_tree(inner)) for name, inner in frames]))


def numbers_of(tree):
    """Return the list of the numbers of a tree, a page before those in its frames."""
    numbers = [tree[0]]
    for _, inner in tree[3]:
        numbers.extend(numbers_of(inner))
    return numbers


def places_of(tree, path):
    """Return the list of pairs of a path and an address, for all frames of a tree that is at a path."""
    _, address, _, frames = tree
    places = [(path, address)]
    for name, inner in frames:
        places.extend(places_of(inner, path + (name,)))
    return places


class Renewal:
    """The throwing away of all pages but those with some numbers, in all trees alike."""

    def __init__(self, site, staying, fresh):
        self._site = site
        self._staying = staying
        self._numbers = {}
        self._added = {}
        self.fresh = fresh

    def renewed(self, tree):
        """Return a tree in which the pages have been thrown away."""
        number, address, state, frames = tree
        rows = [(name, self.renewed(inner)) for name, inner in frames]
        if number in self._staying:
            return (number, address, state, tuple(rows))
        return (self._new_number(number), address, state, self._all_frames(number, address, dict(rows)))

    def _new_number(self, number):
        if number not in self._numbers:
            self._numbers[number] = self.fresh
            self.fresh += 1
        return self._numbers[number]

    def _all_frames(self, number, address, left):
        rows = []
        for name, page in self._site.frames_of(address):
            if name in left:
                rows.append((name, left[name]))
            else:
                rows.append((name, self._added_tree(number, name, page)))
        return tuple(rows)

    def _added_tree(self, number, name, page):
        # All occurrences of a page get the same tree in place of a frame that was dropped.
        if (number, name) not in self._added:
            tree, fresh = loaded_tree(self._site, page, self.fresh)
            self._added[(number, name)] = tree
            self.fresh = fresh
        return self._added[(number, name)]
