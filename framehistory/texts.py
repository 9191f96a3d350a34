"""The texts of sites, cares, deeds and journals, and reading them."""

from framehistory.checks import check_site, is_path, ordered_cares
from framehistory.drafts import Draft
from framehistory.errors import BadDeed, BadDeeds, BadSite, BadText
from framehistory.lists import answer_of
from framehistory.machines import Machine, all_deeds, all_paths, is_deed
from framehistory.sites import ALL_CARES

NO_CARES = "-"
ARROW = " -> "


def site_text(site):
    """Return the text of a site."""
    check_site(site)
    frames, links = site.frames, site.links
    rows = [["page", address] + [f"{name}:{page}" for name, page in frames[address]] for address in frames]
    rows.extend([["links", address] + list(links[address]) for address in links])
    rows.extend([["home", site.home], ["cap", str(site.cap)], ["pushes"] + list(site.pushes)])
    rows.extend([["drops", _yes_or_no(site.drops)], ["clears", _yes_or_no(site.clears)]])
    rows.append(["reopens", _yes_or_no(site.reopens)])
    return _text_of([" ".join(words) for words in rows])


def read_site(text):
    """Return the site that a text tells of."""
    lines, rest = _lines_of(text)
    draft = Draft()
    for row, line in enumerate(lines):
        if not draft.accept(line):
            raise BadText(row)
    if rest != "" or not draft.is_whole():
        raise BadText(len(lines))
    try:
        return draft.made_site()
    except BadSite:
        raise BadText(0) from None


def cares_text(cares):
    """Return the text of cares."""
    words = ordered_cares(cares)
    return " ".join(words) if words != () else NO_CARES


def read_cares(text):
    """Return the set of cares that a text tells of."""
    words = text.split(" ") if isinstance(text, str) else []
    cares = tuple([care for care in ALL_CARES if care in words])
    # Whatever else the text has, or has in another way, is missing in the text of these cares.
    if not isinstance(text, str) or cares_text(cares) != text:
        raise BadText(0)
    return cares


def deed_text(site, deed):
    """Return the text of a deed."""
    if not is_deed(site, deed):
        raise BadDeed("not a deed of the site")
    return _deed_line(deed)


def journal_text(site, journal):
    """Return the text of a journal."""
    check_site(site)
    if not isinstance(journal, (list, tuple)) or not all([_is_row(site, row) for row in journal]):
        raise BadDeeds("not a list or tuple of pairs of a deed and an answer")
    return _text_of([_deed_line(deed) + ARROW + _answer_line(answer) for deed, answer in journal])


def read_journal(site, text):
    """Return the journal that a text tells of: a list of pairs of a deed and an answer."""
    deeds = {_deed_line(deed): deed for deed in all_deeds(site)}
    answers = {_answer_line(answer): answer for answer in _all_answers(site)}
    lines, rest = _lines_of(text)
    journal = []
    for row, line in enumerate(lines):
        parts = line.split(ARROW)
        if len(parts) != 2 or parts[0] not in deeds or parts[1] not in answers:
            raise BadText(row)
        journal.append((deeds[parts[0]], answers[parts[1]]))
    if rest != "":
        raise BadText(len(lines))
    return journal


def replay(site, cares, text):
    """Do the deeds of a journal again; return the index of the first line with another answer, or None."""
    machine = Machine(site, cares=cares)
    for row, (deed, answer) in enumerate(read_journal(site, text)):
        if answer_of(machine, deed) != answer:
            return row
    return None


def _text_of(lines):
    return "".join([line + "\n" for line in lines])


def _lines_of(text):
    """Return the list of the lines of a text, and what stands behind the last line feed."""
    if not isinstance(text, str):
        raise BadText(0)
    parts = text.split("\n")
    return parts[:-1], parts[-1]


def _yes_or_no(value):
    return "yes" if value else "no"


def _path_words(path):
    return "".join(["/" + name for name in path]) if path != () else "/"


def _deed_line(deed):
    if len(deed) == 1:
        return deed[0]
    return " ".join([deed[0], _path_words(deed[1])] + list(deed[2:]))


def _answer_line(answer):
    if answer is None:
        return "done"
    if answer == "no":
        return "no"
    word, path = answer
    return word if word == "steps" else f"{word} {_path_words(path)}"


def _all_answers(site):
    return [None, "no", ("steps", ())] + [("shown", path) for path in all_paths(site)]


def _is_row(site, row):
    return isinstance(row, tuple) and len(row) == 2 and is_deed(site, row[0]) and _is_answer(site, row[1])


def _is_answer(site, value):
    if value is None:
        return True
    if isinstance(value, str):
        return value == "no"
    if not isinstance(value, tuple) or len(value) != 2 or not isinstance(value[0], str) or not is_path(site, value[1]):
        return False
    return value[0] == "shown" or value == ("steps", ())
