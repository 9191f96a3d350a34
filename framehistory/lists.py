"""Lists of deeds: their answers, and the cares that they need."""

from framehistory.browsers import first_browser
from framehistory.caresets import all_sets, has_all
from framehistory.checks import check_site, ordered_cares
from framehistory.errors import BadDeeds
from framehistory.machines import Machine, difference, is_deed
from framehistory.records import first_record
from framehistory.sites import ALL_CARES

MOST_DEEDS = 40


def answers(site, cares, deeds):
    """Return the list of the answers to a list of deeds."""
    machine = Machine(site, cares=cares)
    check_deeds(site, deeds)
    return [answer_of(machine, deed) for deed in deeds]


def sufficient(site, deeds):
    """Return the list of all sets of cares that are sufficient for a list of deeds, in order."""
    check_site(site)
    check_deeds(site, deeds)
    rows = _right_rows(site, deeds)
    return [cares for cares in all_sets(ALL_CARES) if _suffices(site, cares, rows)]


def least_sets(site, deeds):
    """Return the list of the sufficient sets that contain no other sufficient one, in order."""
    least = []
    for cares in sufficient(site, deeds):
        # A set that this one contains has fewer cares, so it stands earlier.
        if not any([has_all(cares, less) for less in least]):
            least.append(cares)
    return least


def needed(site, deeds):
    """Return the list of the cares that are in each sufficient set, in order."""
    sets = sufficient(site, deeds)
    return [care for care in ALL_CARES if all([care in cares for cares in sets])]


def harms(site, deeds):
    """Return the list of pairs of a sufficient set and a care with which it is not sufficient any more."""
    sets = sufficient(site, deeds)
    good = {cares: True for cares in sets}
    pairs = [(cares, care) for cares in sets for care in ALL_CARES if care not in cares]
    return [(cares, care) for cares, care in pairs if ordered_cares(cares + (care,)) not in good]


def check_deeds(site, deeds):
    """Refuse what is not a list or tuple of at most 40 deeds of a site."""
    if not isinstance(deeds, (list, tuple)) or len(deeds) > MOST_DEEDS:
        raise BadDeeds("not a list or tuple of so few deeds")
    if not all([is_deed(site, deed) for deed in deeds]):
        raise BadDeeds("not a deed of the site")


def answer_of(machine, deed):
    """Do a deed, if it is possible; return its answer."""
    return machine.do(deed) if machine.can(deed) else "no"


def _right_rows(site, deeds):
    """Return the list of the pairs of a deed that is possible, and the record after it."""
    rows = []
    record = first_record(site)
    for deed in deeds:
        if record.allows(deed):
            record = record.after(deed)
            rows.append((deed, record))
    return rows


def _suffices(site, cares, rows):
    # As long as no deed fails, the same deeds are possible with all sets of cares.
    browser = first_browser(site, cares)
    for deed, record in rows:
        browser = browser.after(deed)
        if difference(record, browser) is not None:
            return False
    return True
