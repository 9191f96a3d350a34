"""Checks of arguments that several parts of the package share."""

from framehistory.errors import BadCares, BadSite
from framehistory.sites import ALL_CARES, Site


def check_site(site):
    """Refuse what is not a Site."""
    if not isinstance(site, Site):
        raise BadSite(None)


def ordered_cares(cares):
    """Return cares as a tuple, in order."""
    if not isinstance(cares, (list, tuple)) or not all([_is_care(care) for care in cares]):
        raise BadCares("the cares are not a list or tuple of cares")
    if len(set(cares)) != len(cares):
        raise BadCares("the cares are not different")
    return tuple([care for care in ALL_CARES if care in cares])


def is_set(value):
    """Say whether a value is a set of cares: a tuple of different ones, in order."""
    if not isinstance(value, tuple) or not all([_is_care(care) for care in value]):
        return False
    return list(value) == [care for care in ALL_CARES if care in value]


def is_path(site, value):
    """Say whether a value is a path with at most two names of frames of any pages of a site."""
    if not isinstance(value, tuple) or len(value) > 2:
        return False
    names = site.frame_names()
    return all([isinstance(name, str) and name in names for name in value])


def is_address(site, value):
    """Say whether a value is the address of a page of a site."""
    return isinstance(value, str) and value in site.addresses()


def _is_care(value):
    return isinstance(value, str) and value in ALL_CARES
