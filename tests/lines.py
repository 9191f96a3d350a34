"""A second reading of point [17]: which lines are accepted, by patterns. It shares no code with the package."""

import re

NAME = "[a-z]{1,8}"
PAGE = re.compile(f"page ({NAME})((?: {NAME}:{NAME}){{0,2}})")
FACTS = ("home", "cap", "pushes", "drops", "clears", "reopens")


def site_row(text):
    """The row of the BadText for the text of a site, or None if it can be read."""
    if not isinstance(text, str):
        return 0
    *lines, rest = text.split("\n")
    for row, line in enumerate(lines):
        if not fits(lines[:row], line):
            return row
    if rest or not lines or not lines[-1].startswith("reopens "):
        return len(lines)
    return None if is_deep_enough(lines) else 0


def fits(before, line):
    """Whether a line is accepted after others that have been."""
    pages = [PAGE.fullmatch(one).group(1) for one in before if one.startswith("page ")]
    links = [one for one in before if one.startswith("links ")]
    found = PAGE.fullmatch(line)
    if found:
        names = [word.split(":")[0] for word in found.group(2).split()]
        return len(before) == len(pages) < 4 and all(page < found.group(1) for page in pages) and len(set(names)) == len(names)
    if not pages:
        return False
    some = "|".join(pages)
    if len(links) < len(pages):
        found = re.fullmatch(f"links {pages[len(links)]}((?: (?:{some}))*)", line)
        return bool(found) and is_rising(found.group(1).split())
    facts = before[len(pages) + len(links):]
    if len(facts) == 6:
        return False
    word = FACTS[len(facts)]
    if word == "pushes":
        found = re.fullmatch(f"pushes((?: (?:{some}))*)", line)
        return bool(found) and is_rising(found.group(1).split())
    values = {"home": some, "cap": "[234]"}.get(word, "yes|no")
    return bool(re.fullmatch(f"{word} (?:{values})", line))


def is_rising(words):
    return all(one < other for one, other in zip(words, words[1:]))


def is_deep_enough(lines):
    """Whether the frames of all pages show pages that there are, and no path is too long."""
    frames = {}
    for line in lines:
        if line.startswith("page "):
            words = line.split()
            frames[words[1]] = [word.split(":")[1] for word in words[2:]]
    shown = set(frames)
    for _ in range(3):
        shown = {page for one in shown for page in frames.get(one, ())}
    known = all(page in frames for inner in frames.values() for page in inner)
    return known and not shown


def journal_row(site, text):
    """The row of the BadText for the text of a journal, or None if it can be read."""
    if not isinstance(text, str):
        return 0
    names = "|".join(sorted({name for rows in site.frames.values() for name, _ in rows})) or "(?!)"
    longer = f"(?:/(?:{names})){{1,2}}"
    path = f"(?:/|{longer})"
    deed = f"go {path} (?:{'|'.join(site.frames)})|push {path}|drop {longer}|back|next|clear|reopen"
    pattern = re.compile(f"(?:{deed}) -> (?:done|no|steps|shown {path})")
    *lines, rest = text.split("\n")
    for row, line in enumerate(lines):
        if not pattern.fullmatch(line):
            return row
    return len(lines) if rest else None


def near(text, letters):
    """All texts with one character less, more or another one."""
    for at in range(len(text) + 1):
        yield text[:at] + text[at + 1:]
        for letter in letters:
            yield text[:at] + letter + text[at:]
            yield text[:at] + letter + text[at + 1:]


def near_in_lines(text):
    """All texts with a line less, twice, exchanged with the next one, or with an empty line before it."""
    lines = text.split("\n")[:-1]
    for at in range(len(lines) + 1):
        head, rest = lines[:at], lines[at:]
        for other in (head + rest[1:], head + rest[:1] + rest, head + rest[1:2] + rest[:1] + rest[2:], head + [""] + rest):
            yield "".join(line + "\n" for line in other)
        yield "".join(line + "\n" for line in head)
        yield "\n".join(head)
