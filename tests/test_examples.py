"""The examples of the document, as they stand there, and that of the README."""

import doctest
import os
import unittest

README = os.path.join(os.path.dirname(os.path.dirname(os.path.abspath(__file__))), "README.md")

EXAMPLES = {
    "sites": '''
>>> from framehistory.sites import Site
>>> site = Site({'a': (('x', 'b'),), 'b': ()}, {'b': ('b', 'a'), 'a': ()}, 'a', pushes=('b',))
>>> [site.frames, site.links, site.home, site.cap, site.pushes, site.drops]
[{'a': (('x', 'b'),), 'b': ()}, {'a': (), 'b': ('a', 'b')}, 'a', 3, ('b',), False]
''',
    "machines": '''
>>> from framehistory.machines import Machine
>>> from framehistory.sites import Site
>>> machine = Machine(Site({'a': (('x', 'b'),), 'b': (), 'c': ()}, {'a': (), 'b': ('c',), 'c': ('b',)}, 'a', drops=True))
>>> found = [machine.do(deed) for deed in [('go', ('x',), 'c'), ('go', ('x',), 'b'), ('back',)]]
>>> before = [found, machine[0], machine.shown(), machine.counts(), machine.can(('next',))]
>>> [before, machine.do(('drop', ('x',))), machine.shown(), machine.counts(), list(machine.possible())]
[[[None, None, None], ('a', 0, (('x', ('b', 0, ())),)), ('a', 0, (('x', ('c', 0, ())),)), (3, 1), True], None, ('a', 0, ()), (1, 0), []]
''',
    "machines with few cares": '''
>>> from framehistory.machines import Machine
>>> from framehistory.sites import Site
>>> machine = Machine(Site({'a': (('x', 'b'),), 'b': ()}, {'a': (), 'b': ('b',)}, 'a'), cares=['prunes', 'shares'])
>>> [machine.do(('go', ('x',), 'b')), machine.counts(), len(machine), machine.here, list(machine.possible())]
[('steps', ()), (1, 0), 2, 1, []]
''',
    "states": '''
>>> from framehistory.machines import Machine
>>> from framehistory.sites import Site
>>> from framehistory.states import state
>>> machine = Machine(Site({'a': (('x', 'b'),), 'b': ()}, {'a': ('b',), 'b': ()}, 'a', pushes=('a',)))
>>> first, found = state(machine), machine.do(('push', ()))
>>> [first, state(machine)]
[(((0, 'a', 0, (('x', (1, 'b', 0, ())),)),), 0, 1, 0, ((-1, 0, ('a', True, (('x', ((-1, 0, ('b', True, ())),)),))),)), (((0, 'a', 0, (('x', (1, 'b', 0, ())),)), (0, 'a', 1, (('x', (1, 'b', 0, ())),))), 1, 2, 1, ((-1, 0, ('a', True, (('x', ((-1, 0, ('b', True, ())),)),))), (1, 1, 0)))]
''',
    "deciding": '''
>>> from framehistory.deciding import Fails, decide, is_safe, run
>>> from framehistory.sites import ALL_CARES, Site
>>> site = Site({'a': (('x', 'b'),), 'b': (), 'c': ()}, {'a': ('c',), 'b': ('c',), 'c': ()}, 'a', clears=True)
>>> history = (('go', ('x',), 'c'), ('go', (), 'c'), ('clear',), ('back',))
>>> answers = [Fails(history).shows(site, ALL_CARES[:2]), Fails(history).shows(site, ALL_CARES[:3]), run(site, ALL_CARES, history).shown()]
>>> [answers, is_safe(site, ALL_CARES[:8]), is_safe(site, ['joint', 'prunes', 'holds', 'covers', 'shares']), decide(site, ALL_CARES).shows(site, ALL_CARES)]
[[True, False, ('a', 0, (('x', ('c', 0, ())),))], True, True, True]
''',
    "lists": '''
>>> from framehistory.lists import answers, least_sets, needed
>>> from framehistory.sites import Site
>>> site = Site({'a': (('x', 'b'),), 'b': ()}, {'a': (), 'b': ('b',)}, 'a')
>>> deeds = [('go', ('x',), 'b'), ('next',), ('back',)]
>>> [answers(site, ['joint'], deeds), answers(site, (), deeds), least_sets(site, deeds), needed(site, deeds)]
[[None, 'no', None], [('steps', ()), 'no', 'no'], [('joint',)], ['joint']]
''',
    "routes": '''
>>> from framehistory.deciding import run
>>> from framehistory.routes import NoRoute, Route, route
>>> from framehistory.sites import Site
>>> site = Site({'a': (('x', 'b'),), 'b': (), 'c': ()}, {'a': ('c',), 'b': ('c',), 'c': ()}, 'a')
>>> machine = run(site, (), [('go', (), 'c')])
>>> found, none = route(machine, ('x',), 'c'), route(machine, ('x',), 'c', words=['back', 'next'])
>>> [found.deeds, found.shows(machine, ('x',), 'c'), isinstance(none, NoRoute), len(none.spots), route(machine, (), 'a', words=['back']).deeds]
[(('back',), ('go', ('x',), 'c')), True, True, 2, (('back',),)]
''',
    "keeping": '''
>>> from framehistory.keeping import count_kept, most_kept
>>> from framehistory.machines import Machine
>>> from framehistory.sites import ALL_CARES, Site
>>> site = Site({'a': (('x', 'b'),), 'b': ()}, {'a': ('b',), 'b': ()}, 'a', clears=True)
>>> [count_kept(Machine(site)), most_kept(site, ALL_CARES).number, most_kept(site, ALL_CARES[:8]).shows(site, ALL_CARES[:8])]
[2, 3, True]
''',
    "fields": r'''
>>> from framehistory.fields import choose, family, rescues
>>> from framehistory.sites import Site
>>> site = Site({'a': (('x', 'b'),), 'b': ()}, {'a': (), 'b': ('b',)}, 'a')
>>> found = family(site, ('prunes', 'covers'), ('joint', 'holds'))
>>> [found.sets, found.least(), found.greatest(), rescues(site, ('prunes', 'covers'), ('joint',)), choose(site, ('prunes',), ('joint', 'covers'), {'joint': 3, 'covers': 0}).found]
[[('joint',), ('joint', 'holds')], [('joint',)], [('joint', 'holds')], [((), ('joint',))], ('joint',)]
''',
    "digits, sessions and texts": r'''
>>> from framehistory.digits import decode, encode
>>> from framehistory.sessions import Session
>>> from framehistory.sites import Site
>>> from framehistory.texts import deed_text, journal_text, replay, site_text
>>> site = Site({'a': (('x', 'b'),), 'b': ()}, {'a': (), 'b': ('b',)}, 'a', cap=2, drops=True)
>>> session = Session(site)
>>> found = [session.deed(('go', ('x',), 'b')), session.deed(('next',)), session.tried([('back',), ('drop', ('x',))]), session.undo()]
>>> text = journal_text(site, session.journal)
>>> [found, site_text(site), deed_text(site, ('push', ())), text, replay(site, (), text), encode(site, (), (('drop', ('x',)),)), decode(site, ['joint'], '0002')]
[[None, 'no', [None, None], (('next',), 'no')], 'page a x:b\npage b\nlinks a\nlinks b b\nhome a\ncap 2\npushes\ndrops yes\nclears no\nreopens no\n', 'push /', 'go /x b -> done\n', 0, '01', (('go', ('x',), 'b'), ('back',))]
''',
}


class Examples(unittest.TestCase):
    def check(self, name, text):
        test = doctest.DocTestParser().get_doctest(text, {}, name, None, 0)
        self.assertGreater(len(test.examples), 2)
        said = []
        doctest.DocTestRunner(verbose=False).run(test, out=said.append)
        self.assertEqual("".join(said), "")

    def test_examples(self):
        for name, text in EXAMPLES.items():
            self.check(name, text)

    def test_readme(self):
        with open(README, encoding="utf-8") as file:
            parts = file.read().split("```\n")
        # One after the other: the later ones use what the first one has made.
        self.check("README", "".join(part for part in parts if part.startswith(">>>")))


if __name__ == "__main__":
    unittest.main()
