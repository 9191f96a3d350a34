"""Sites and sets of cares for the tests, made from seeds, the same ones in every run."""

from framehistory.errors import BadSite
from framehistory.sites import ALL_CARES, Site


class Anything:
    """A value that says of everything that it is equal to it; it is still none of the kinds asked for."""

    def __eq__(self, other):
        return True

    def __hash__(self):
        return 0

    def __repr__(self):
        return "Anything()"


def any_site(chance):
    """Return some site."""
    while True:
        addresses = ["a", "b", "c", "d"][:chance.randint(1, 4)]
        names = ["x", "y", "z"]
        frames = {
            address: tuple((name, chance.choice(addresses)) for name in chance.sample(names, chance.choice([0, 1, 1, 2])))
            for address in addresses
        }
        links = {address: tuple(chance.sample(addresses, chance.randint(0, len(addresses)))) for address in addresses}
        pushes = tuple(chance.sample(addresses, chance.randint(0, len(addresses))))
        switches = [chance.random() < part for part in (0.7, 0.6, 0.6)]
        try:
            return Site(
                frames, links, chance.choice(addresses), cap=chance.randint(2, 4), pushes=pushes,
                drops=switches[0], clears=switches[1], reopens=switches[2],
            )
        except BadSite:
            continue


def any_cares(chance):
    """Return some set of cares, more often a large one."""
    lost = chance.sample(ALL_CARES, chance.choice([0, 1, 1, 2, 3, 5, 9]))
    return tuple(care for care in ALL_CARES if care not in lost)


def any_deed(chance, deeds):
    """Return one of some deeds; each word among them is taken as often as another one."""
    word = chance.choice(sorted({deed[0] for deed in deeds}))
    return chance.choice([deed for deed in deeds if deed[0] == word])
