"""The browser: frames with entries, and documents that may be kept or thrown away."""

from framehistory.entries import cut_off, pruned, shifted, shifted_step, shown_entry, without_states


def first_browser(site, cares):
    """Return the browser at the beginning."""
    browser = Browser(site, cares, (0, 0, 0), ((-1, 0, 0),), {0: (site.home, False, ())})
    browser.load(browser.frame)
    return browser


class Browser:
    """A browser: its first, last and current step, its outermost frame and its documents.

    The documents are a dict from numbers to triples (address, kept, frames). The frames are pairs of a
    name and a frame: those that the document has while it is kept, the saved ones while it is not.
    Frames and documents are never modified, only replaced, so that a copy is cheap.
    """

    def __init__(self, site, cares, steps, frame, documents):
        self._site = site
        self._cares = cares
        self.first, self.last, self.now = steps
        self.frame = frame
        self.documents = dict(documents)
        self._fresh = max(list(documents)) + 1

    def after(self, deed):
        """Return the browser after a deed that is possible."""
        steps = (self.first, self.last, self.now)
        browser = Browser(self._site, self._cares, steps, self.frame, self.documents)
        browser.perform(deed)
        return browser

    def perform(self, deed):
        """Do a deed that is possible."""
        word = deed[0]
        if word == "go":
            self._go(deed[1], deed[2])
        elif word == "push":
            self._push(deed[1])
        elif word == "back":
            self.now -= 1
        elif word == "next":
            self.now += 1
        elif word == "drop":
            self._drop(deed[1])
        elif word == "reopen":
            self._throw_away([])
        elif "holds" not in self._cares:
            self._throw_away(self._shown_numbers(self.frame))
        self._forget()
        self.load(self.frame)

    def step_counts(self):
        """Return the pair of the number of steps and the index of the current one."""
        return (self.last - self.first + 1, self.now - self.first)

    def view(self, frame):
        """Return what a frame shows, with all frames in it: (address, state, frames)."""
        _, state, number = shown_entry(frame, self.now)
        address, _, frames = self.documents[number]
        return (address, state, tuple([(name, self.view(inner)) for name, inner in frames]))

    def load(self, frame):
        """Load what a frame shows, with all frames in it."""
        number = shown_entry(frame, self.now)[2]
        address, kept, frames = self.documents[number]
        if not kept:
            frames = self._loaded_frames(address, frames)
            self.documents[number] = (address, True, frames)
        for _, inner in frames:
            self.load(inner)

    def _loaded_frames(self, address, saved):
        rows = []
        for index, (name, page) in enumerate(self._site.frames_of(address)):
            if "names" in self._cares:
                found = [frame for word, frame in saved if word == name]
            else:
                found = [frame for _, frame in saved[index:index + 1]]
            rows.append((name, found[0] if found != [] else self._first_frame(page)))
        return tuple(rows)

    def _first_frame(self, address):
        return ((-1, 0, self._new_document(address)),)

    def _new_document(self, address):
        number = self._fresh
        self._fresh += 1
        self.documents[number] = (address, False, ())
        return number

    def _go(self, path, address):
        number = self._new_document(address)
        if path == () or "joint" in self._cares:
            self._add_entry(path, 0, number)
            return
        frame = self._frame_at(path)
        shown = shown_entry(frame, self.now)
        rows = [(entry[0], 0, number) if entry == shown else entry for entry in frame]
        self._put_frame(path, tuple(rows))

    def _push(self, path):
        _, state, number = shown_entry(self._frame_at(path), self.now)
        if "shares" not in self._cares:
            number = self._new_document(self.documents[number][0])
        self._add_entry(path, 1 - state, number)

    def _add_entry(self, path, state, number):
        now = self.now
        if "prunes" in self._cares:
            self._change_frames(lambda frame: pruned(frame, now))
        else:
            self._put_frame(path, pruned(self._frame_at(path), now))
        self._put_frame(path, self._frame_at(path) + ((now + 1, state, number),))
        self.now = self.last = now + 1
        if self.last - self.first + 1 > self._site.cap:
            self._cut_first()

    def _cut_first(self):
        self.first += 1
        first = self.first
        covers = "covers" in self._cares
        self._change_frames(lambda frame: cut_off(frame, first, covers))

    def _drop(self, path):
        number = self._number_at(path[:-1])
        address, kept, frames = self.documents[number]
        left = [(name, frame) for name, frame in frames if name != path[-1]]
        self.documents[number] = (address, kept, tuple(left))
        if "merges" in self._cares:
            self._forget()
            self._merge_steps()

    def _merge_steps(self):
        used = {step: True for frame in self._all_frames() for step, _, _ in frame}
        gone = [step for step in range(self.first + 1, self.last + 1) if step not in used]
        self._change_frames(lambda frame: shifted(frame, gone))
        self.now = shifted_step(self.now, gone)
        self.last = shifted_step(self.last, gone)

    def _throw_away(self, staying):
        for number in list(self.documents):
            address, kept, frames = self.documents[number]
            if number not in staying and kept:
                self.documents[number] = (address, False, frames if "nests" in self._cares else ())
        if "states" not in self._cares:
            self._change_frames(lambda frame: without_states(frame, staying))

    def _change_frames(self, change):
        self.frame = change(self.frame)
        for number in list(self.documents):
            address, kept, frames = self.documents[number]
            self.documents[number] = (address, kept, tuple([(name, change(frame)) for name, frame in frames]))

    def _all_frames(self):
        return [self.frame] + [frame for row in list(self.documents.values()) for _, frame in row[2]]

    def _forget(self):
        # Documents that no entry leads to are gone: their entries must not count as steps.
        used = {}
        self._mark_used(self.frame, used)
        self.documents = {number: self.documents[number] for number in used}

    def _mark_used(self, frame, used):
        for _, _, number in frame:
            if number not in used:
                used[number] = True
                for _, inner in self.documents[number][2]:
                    self._mark_used(inner, used)

    def _shown_numbers(self, frame):
        number = shown_entry(frame, self.now)[2]
        numbers = [number]
        for _, inner in self.documents[number][2]:
            numbers.extend(self._shown_numbers(inner))
        return numbers

    def _number_at(self, path):
        return shown_entry(self._frame_at(path), self.now)[2]

    def _frame_at(self, path):
        frame = self.frame
        for name in path:
            number = shown_entry(frame, self.now)[2]
            frame = [inner for word, inner in self.documents[number][2] if word == name][0]
        return frame

    def _put_frame(self, path, frame):
        if path == ():
            self.frame = frame
            return
        number = self._number_at(path[:-1])
        address, kept, frames = self.documents[number]
        rows = [(name, frame if name == path[-1] else old) for name, old in frames]
        self.documents[number] = (address, kept, tuple(rows))
