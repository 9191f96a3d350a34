"""A second reading of the document: records and browsers written anew, with objects that change.

It shares no code with the package. It is slow and literal on purpose: every rule stands where the
document has it, and objects are told apart by what they are, not by numbers.
"""

import itertools


class Page:
    """A page of the record at one step; sameness of pages is sameness of `key`."""

    def __init__(self, key, address, state, frames):
        self.key = key
        self.address = address
        self.state = state
        self.frames = frames

    def twin(self):
        return Page(self.key, self.address, self.state, {name: page.twin() for name, page in self.frames.items()})

    def same(self, other):
        return (
            self.key is other.key
            and self.state == other.state
            and list(self.frames) == list(other.frames)
            and all(page.same(other.frames[name]) for name, page in self.frames.items())
        )

    def all_pages(self):
        yield self
        for page in self.frames.values():
            yield from page.all_pages()

    def seen(self):
        return (self.address, self.state, tuple((name, page.seen()) for name, page in self.frames.items()))


class Facts:
    """What a site says, taken from its eight properties alone."""

    def __init__(self, site):
        self.frames = site.frames
        self.links = site.links
        self.home = site.home
        self.cap = site.cap
        self.pushes = site.pushes
        self.drops = site.drops
        self.clears = site.clears
        self.reopens = site.reopens

    def height(self, address):
        return max((1 + self.height(page) for _, page in self.frames[address]), default=0)

    def deeds(self):
        names = sorted({name for rows in self.frames.values() for name, _ in rows})
        paths = [path for many in range(3) for path in itertools.product(names, repeat=many)]
        return (
            [("go", path, address) for path in paths for address in sorted(self.frames)]
            + [("push", path) for path in paths]
            + [("drop", path) for path in paths if path]
            + [("back",), ("next",), ("clear",), ("reopen",)]
        )

    def fresh_page(self, address):
        return Page(object(), address, 0, {name: self.fresh_page(page) for name, page in self.frames[address]})


class RecordReading:
    def __init__(self, facts):
        self.facts = facts
        self.steps = [facts.fresh_page(facts.home)]
        self.here = 0

    def page(self, path):
        page = self.steps[self.here]
        for name in path:
            page = page.frames.get(name)
            if page is None:
                return None
        return page

    def can(self, deed):
        facts = self.facts
        if deed == ("back",):
            return self.here >= 1
        if deed == ("next",):
            return self.here <= len(self.steps) - 2
        if deed == ("clear",):
            return facts.clears
        if deed == ("reopen",):
            return facts.reopens
        page = self.page(deed[1])
        if page is None:
            return False
        if deed[0] == "go":
            deep = len(deed[1]) + facts.height(deed[2])
            return deed[2] in facts.links[page.address] and deep <= 2
        if deed[0] == "push":
            return page.address in facts.pushes
        return facts.drops

    def do(self, deed):
        getattr(self, "do_" + deed[0])(*deed[1:])

    def do_back(self):
        self.here -= 1

    def do_next(self):
        self.here += 1

    def new_step(self):
        tree = self.steps[self.here].twin()
        del self.steps[self.here + 1:]
        self.steps.append(tree)
        if len(self.steps) > self.facts.cap:
            self.steps.pop(0)
        self.here = len(self.steps) - 1

    def do_go(self, path, address):
        self.new_step()
        new = self.facts.fresh_page(address)
        if path:
            self.page(path[:-1]).frames[path[-1]] = new
        else:
            self.steps[self.here] = new

    def do_push(self, path):
        self.new_step()
        page = self.page(path)
        page.state = {0: 1, 1: 0}[page.state]

    def do_drop(self, path):
        key = self.page(path[:-1]).key
        for tree in self.steps:
            for page in list(tree.all_pages()):
                if page.key is key:
                    page.frames.pop(path[-1], None)
        at = 0
        while at + 1 < len(self.steps):
            if self.steps[at].same(self.steps[at + 1]):
                del self.steps[at + 1]
                if self.here > at:
                    self.here -= 1
            else:
                at += 1

    def do_clear(self):
        self.throw_away([page.key for page in self.steps[self.here].all_pages()])

    def do_reopen(self):
        self.throw_away([])

    def throw_away(self, staying):
        keys, fresh = {}, {}
        for tree in self.steps:
            for page in list(tree.all_pages()):
                if any(page.key is key for key in staying):
                    continue
                old = page.key
                frames = {}
                for name, address in self.facts.frames[page.address]:
                    if name in page.frames:
                        frames[name] = page.frames[name]
                    else:
                        if (id(old), name) not in fresh:
                            fresh[(id(old), name)] = (old, self.facts.fresh_page(address))
                        frames[name] = fresh[(id(old), name)][1].twin()
                page.frames = frames
                page.key = keys.setdefault(id(old), (old, object()))[1]

    def plain(self):
        numbers = {}

        def told(page):
            number = numbers.setdefault(id(page.key), len(numbers))
            return (number, page.address, page.state, tuple((name, told(one)) for name, one in page.frames.items()))

        return tuple(told(tree) for tree in self.steps)


class Doc:
    def __init__(self, address):
        self.address = address
        self.kept = False
        self.frames = []
        self.saved = []


class Entry:
    def __init__(self, step, state, doc):
        self.step = step
        self.state = state
        self.doc = doc


class Frame:
    def __init__(self, entries):
        self.entries = entries


class BrowserReading:
    def __init__(self, facts, cares):
        self.facts = facts
        self.cares = set(cares)
        self.first = self.last = self.current = 0
        self.outer = Frame([Entry(-1, 0, Doc(facts.home))])
        self.load(self.outer)

    def entry(self, frame):
        fitting = [entry for entry in frame.entries if entry.step <= self.current]
        return fitting[-1] if fitting else frame.entries[0]

    def inner(self, doc):
        return doc.frames if doc.kept else doc.saved

    def load(self, frame):
        doc = self.entry(frame).doc
        if not doc.kept:
            doc.kept = True
            for index, (name, address) in enumerate(self.facts.frames[doc.address]):
                doc.frames.append((name, Frame(self.first_entries(doc, index, name, address))))
            doc.saved = []
        for _, one in doc.frames:
            self.load(one)

    def first_entries(self, doc, index, name, address):
        if "names" in self.cares:
            for word, frame in doc.saved:
                if word == name:
                    return frame.entries
        elif index < len(doc.saved):
            return doc.saved[index][1].entries
        return [Entry(-1, 0, Doc(address))]

    def all_docs(self):
        docs, todo = [], [self.outer]
        while todo:
            for entry in todo.pop().entries:
                if not any(entry.doc is doc for doc in docs):
                    docs.append(entry.doc)
                    todo.extend(frame for _, frame in self.inner(entry.doc))
        return docs

    def all_frames(self):
        return [self.outer] + [frame for doc in self.all_docs() for _, frame in self.inner(doc)]

    def shown_docs(self):
        docs, todo = [], [self.outer]
        while todo:
            doc = self.entry(todo.pop()).doc
            docs.append(doc)
            todo.extend(frame for _, frame in doc.frames)
        return docs

    def frame(self, path):
        frame = self.outer
        for name in path:
            frame = dict(self.entry(frame).doc.frames)[name]
        return frame

    def do(self, deed):
        getattr(self, "do_" + deed[0])(*deed[1:])
        self.load(self.outer)

    def do_go(self, path, address):
        if path and "joint" not in self.cares:
            entry = self.entry(self.frame(path))
            entry.state, entry.doc = 0, Doc(address)
        else:
            self.add(self.frame(path), 0, Doc(address))

    def do_push(self, path):
        frame = self.frame(path)
        entry = self.entry(frame)
        doc = entry.doc if "shares" in self.cares else Doc(entry.doc.address)
        self.add(frame, int(not entry.state), doc)

    def add(self, frame, state, doc):
        for one in self.all_frames() if "prunes" in self.cares else [frame]:
            left = [entry for entry in one.entries if not entry.step > self.current]
            if not left:
                left = one.entries[:1]
                left[0].step = -1
            one.entries = left
        self.current += 1
        self.last = self.current
        frame.entries.append(Entry(self.current, state, doc))
        if self.last - self.first + 1 > self.facts.cap:
            self.first += 1
            for one in self.all_frames():
                self.cut(one)

    def cut(self, frame):
        while frame.entries[0].step < self.first:
            if len(frame.entries) == 1:
                return
            coming = frame.entries[1].step
            if "covers" in self.cares and coming > self.first:
                return
            frame.entries.pop(0)

    def do_back(self):
        self.current -= 1

    def do_next(self):
        self.current += 1

    def do_drop(self, path):
        doc = self.entry(self.frame(path[:-1])).doc
        doc.frames = [(name, frame) for name, frame in doc.frames if name != path[-1]]
        if "merges" not in self.cares:
            return
        step = self.first + 1
        while step <= self.last:
            entries = [entry for frame in self.all_frames() for entry in frame.entries]
            if any(entry.step == step for entry in entries):
                step += 1
                continue
            for entry in entries:
                entry.step -= entry.step > step
            self.current -= self.current >= step
            self.last -= 1

    def do_clear(self):
        if "holds" not in self.cares:
            shown = self.shown_docs()
            self.throw_away([doc for doc in self.all_docs() if not any(doc is one for one in shown)])

    def do_reopen(self):
        self.throw_away(self.all_docs())

    def throw_away(self, docs):
        if "states" not in self.cares:
            for frame in self.all_frames():
                for entry in frame.entries:
                    if any(entry.doc is doc for doc in docs):
                        entry.state = 0
        for doc in docs:
            if doc.kept:
                doc.kept = False
                doc.saved = doc.frames if "nests" in self.cares else []
                doc.frames = []

    def shown(self, frame=None):
        entry = self.entry(self.outer if frame is None else frame)
        return (entry.doc.address, entry.state, tuple((name, self.shown(one)) for name, one in entry.doc.frames))

    def plain(self):
        known = []

        def told_doc(doc):
            for number, one in enumerate(known):
                if one is doc:
                    return number
            known.append(doc)
            return (doc.address, doc.kept, tuple((name, told(frame)) for name, frame in self.inner(doc)))

        def told(frame):
            rows = []
            for entry in frame.entries:
                step = entry.step - self.first
                rows.append((-1 if step < 0 else step, entry.state, told_doc(entry.doc)))
            return tuple(rows)

        return told(self.outer)


class Reading:
    """The record and the browser of the second reading, beside each other."""

    def __init__(self, site, cares):
        facts = Facts(site)
        self.deeds = facts.deeds()
        self.record = RecordReading(facts)
        self.browser = BrowserReading(facts, cares)
        self.failure = None

    def possible(self):
        if self.failure is not None:
            return []
        return [deed for deed in self.deeds if self.record.can(deed)]

    def do(self, deed):
        self.record.do(deed)
        self.browser.do(deed)
        self.failure = self.difference()
        return self.failure

    def counts(self):
        browser = self.browser
        return (browser.last - browser.first + 1, browser.current - browser.first)

    def difference(self):
        if self.counts() != (len(self.record.steps), self.record.here):
            return ("steps", ())
        todo = [((), self.record.steps[self.record.here].seen(), self.browser.shown())]
        while todo:
            path, right, found = todo.pop(0)
            if right[:2] != found[:2] or [row[0] for row in right[2]] != [row[0] for row in found[2]]:
                return ("shown", path)
            pairs = zip(right[2], found[2])
            todo = [(path + (name,), inner, other) for (name, inner), (_, other) in pairs] + todo
        return None

    def state(self):
        return (self.record.plain(), self.record.here, *self.counts(), self.browser.plain())
