"""The record: what each step should show."""

from framehistory.trees import (
    Renewal, loaded_tree, numbers_of, places_of, replaced, tree_at, without_frame,
)


def first_record(site):
    """Return the record at the beginning."""
    tree, fresh = loaded_tree(site, site.home, 0)
    return Record(site, (tree,), 0, fresh)


class Record:
    """A record: a tuple of trees, one for each step, and the index of the current one. It never changes."""

    def __init__(self, site, trees, current, fresh):
        self._site = site
        self.trees = trees
        self.current = current
        self._fresh = fresh

    def tree(self):
        """Return the current tree."""
        return self.trees[self.current]

    def possible_deeds(self):
        """Return the list of the deeds that are possible, in the order of all deeds of the site."""
        places = sorted(places_of(self.tree(), ()), key=_place_order)
        deeds = [("go", path, to) for path, page in places for to in self._site.links_of(page) if self._fits(path, to)]
        deeds.extend([("push", path) for path, page in places if page in self._site.pushes])
        if self._site.drops:
            deeds.extend([("drop", path) for path, _ in places if path != ()])
        words = ("back", "next", "clear", "reopen")
        deeds.extend([(word,) for word in words if self._allows_word(word)])
        return deeds

    def allows(self, deed):
        """Say whether a deed of the site is possible."""
        word = deed[0]
        if len(deed) == 1:
            return self._allows_word(word)
        path = deed[1]
        tree = tree_at(self.tree(), path)
        if tree is None:
            return False
        if word == "go":
            return deed[2] in self._site.links_of(tree[1]) and self._fits(path, deed[2])
        if word == "push":
            return tree[1] in self._site.pushes
        return self._site.drops

    def after(self, deed):
        """Return the record after a deed that is possible."""
        word = deed[0]
        if word == "go":
            part, fresh = loaded_tree(self._site, deed[2], self._fresh)
            return self._with_step(deed[1], part, fresh)
        if word == "push":
            number, address, state, frames = tree_at(self.tree(), deed[1])
            return self._with_step(deed[1], (number, address, 1 - state, frames), self._fresh)
        if word == "back":
            return Record(self._site, self.trees, self.current - 1, self._fresh)
        if word == "next":
            return Record(self._site, self.trees, self.current + 1, self._fresh)
        if word == "drop":
            return self._after_drop(deed[1])
        if word == "clear":
            return self._thrown_away(numbers_of(self.tree()))
        return self._thrown_away([])

    def _fits(self, path, address):
        return len(path) + self._site.depth_of(address) <= 2

    def _allows_word(self, word):
        if word == "back":
            return self.current > 0
        if word == "next":
            return self.current + 1 < len(self.trees)
        if word == "clear":
            return self._site.clears
        return self._site.reopens

    def _with_step(self, path, part, fresh):
        trees = self.trees[:self.current + 1] + (replaced(self.tree(), path, part),)
        if len(trees) > self._site.cap:
            trees = trees[1:]
        return Record(self._site, trees, len(trees) - 1, fresh)

    def _after_drop(self, path):
        page = tree_at(self.tree(), path[:-1])
        rows = []
        current = 0
        for step, tree in enumerate(self.trees):
            left = without_frame(tree, page[0], path[-1])
            if rows == [] or rows[-1] != left:
                rows.append(left)
            if step == self.current:
                current = len(rows) - 1
        return Record(self._site, tuple(rows), current, self._fresh)

    def _thrown_away(self, staying):
        renewal = Renewal(self._site, staying, self._fresh)
        trees = tuple([renewal.renewed(tree) for tree in self.trees])
        return Record(self._site, trees, self.current, renewal.fresh)


def _place_order(place):
    path, _ = place
    return (len(path), path)
