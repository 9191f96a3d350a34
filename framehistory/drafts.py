"""Drafts: sites of which some lines have been read."""

from framehistory.sites import Site, is_name

LAST_WORDS = ("home", "cap", "pushes", "drops", "clears", "reopens")
SWITCHES = {"yes": True, "no": False}
CAPS = {"2": 2, "3": 3, "4": 4}
MOST_PAGES = 4
MOST_FRAMES = 2


class Draft:
    """What the lines of a site have told so far.

    The pages are a dict from addresses to frames, the goals one from addresses to links, and the facts one
    from the words of the last six lines to what they tell.
    """

    def __init__(self):
        self._pages = {}
        self._goals = {}
        self._facts = {}

    def accept(self, line):
        """Take in a line, if it may stand next; say whether it may."""
        words = line.split(" ")
        if words[0] == "page":
            return self._accept_page(words[1:])
        if words[0] == "links":
            return self._accept_links(words[1:])
        return self._accept_fact(words[0], words[1:])

    def is_whole(self):
        """Say whether no line is missing."""
        return len(self._facts) == len(LAST_WORDS)

    def made_site(self):
        """Return the site, when no line is missing."""
        facts = self._facts
        return Site(
            self._pages, self._goals, facts["home"], cap=facts["cap"], pushes=facts["pushes"],
            drops=facts["drops"], clears=facts["clears"], reopens=facts["reopens"],
        )

    def _accept_page(self, words):
        if self._goals != {} or len(self._pages) == MOST_PAGES or words == [] or not is_name(words[0]):
            return False
        if any([address >= words[0] for address in self._pages]):
            return False
        pairs = [word.split(":") for word in words[1:]]
        if len(pairs) > MOST_FRAMES or not all([_are_two_names(pair) for pair in pairs]):
            return False
        if len({pair[0] for pair in pairs}) != len(pairs):
            return False
        self._pages[words[0]] = tuple([(name, page) for name, page in pairs])
        return True

    def _accept_links(self, words):
        left = [address for address in self._pages if address not in self._goals]
        if left == [] or words == [] or words[0] != left[0] or not self._are_ascending(words[1:]):
            return False
        self._goals[words[0]] = tuple(words[1:])
        return True

    def _accept_fact(self, word, words):
        left = [other for other in LAST_WORDS if other not in self._facts]
        if len(self._goals) < len(self._pages) or left == [] or word != left[0]:
            return False
        if word == "pushes":
            told = tuple(words) if self._are_ascending(words) else None
        else:
            told = self._told_by(word, words[0]) if len(words) == 1 else None
        if told is None:
            return False
        self._facts[word] = told
        return True

    def _told_by(self, word, text):
        """Return what the second of two words tells, or None if it tells nothing."""
        if word == "home":
            return text if text in self._pages else None
        if word == "cap":
            return CAPS.get(text, None)
        return SWITCHES.get(text, None)

    def _are_ascending(self, words):
        return words == sorted(set(words)) and all([word in self._pages for word in words])


def _are_two_names(pair):
    return len(pair) == 2 and is_name(pair[0]) and is_name(pair[1])
