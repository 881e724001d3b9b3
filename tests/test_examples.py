"""The examples of DOC.md, word for word."""

import doctest
import unittest

EXAMPLES = """
>>> from scopebind.libraries import Library, Store
>>> from scopebind.process import Process
>>> app = Library('app', needs=('ui', 'core'), uses=('put', 'get'))
>>> ui = Library('ui', needs=('core',), defines=('put',))
>>> core = Library('core', defines=('put', 'get'))
>>> extra = Library('extra', needs=('core',), defines=('get',), uses=('log',), weak=('log',))
>>> log = Library('log', defines=('log',))
>>> store = Store([app, ui, core, extra, log])

>>> p = Process(store, 'app')
>>> [p.scope(), p.order(), p.target('app', 'put')]
[['app', 'ui', 'core'], ['core', 'ui', 'app'], 'ui']
>>> p = Process(store, 'app', preloads=('extra',))
>>> [p.scope(), p.target('app', 'get')]
[['app', 'extra', 'ui', 'core'], 'extra']
>>> p = Process(store, 'app')
>>> a = p.attach('log', spread=True)
>>> b = p.attach('extra')
>>> c = p.call('extra', 'log')
>>> p.pins('log', (a,))
([('extra', 'log')], [['extra', ('log',), 'log']])
>>> [c, p.detach(a), p.why('log'), p.holders('log')]
['log', [], ['extra', 'log'], [2]]
>>> [p.detach(b), p.scope(), p.bindings()]
[['extra', 'log'], ['app', 'ui', 'core'], []]

>>> from scopebind.preloads import least_preloads
>>> least_preloads(store, 'app', {'get': 'extra'})
('order', ['extra'])
>>> least_preloads(store, 'app', {'log': 'core'})
('undefined', 'log')
"""


class ExamplesTest(unittest.TestCase):
    def test_examples(self):
        test = doctest.DocTestParser().get_doctest(EXAMPLES, {}, "examples", "DOC.md", 0)
        told = doctest.DocTestRunner().run(test)
        self.assertEqual([told.failed, told.attempted], [0, 22])


if __name__ == "__main__":
    unittest.main()
