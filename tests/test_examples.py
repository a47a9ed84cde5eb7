"""The examples of the document, as written there."""

import doctest
import pathlib
import unittest

README = pathlib.Path(__file__).parent.parent / "README.md"

DISCS = """
>>> from allonetree.discs import Disc
>>> disc = Disc()
>>> [disc.do(act) for act in (('folder', 'a'), ('file', 'a/x', 'one'), ('file', 'y', ''), ('move', 'y', 'A/Y'))]
[None, None, None, None]
>>> disc.rows()
(('a', 'folder', ''), ('a/Y', 'file', ''), ('a/x', 'file', 'one'))
>>> [disc.nodes()[0], disc.spot(2), disc.next]
[('', 0, 'folder', '', 3), ((1, 'x'), 'file', 'one', 0), 4]
>>> def refused(act):
...     try:
...         disc.do(act)
...     except ValueError as error:
...         return error.value
>>> [refused(act) for act in (('folder', 'A'), ('file', 'b/x', ''), ('file', 'a', ''), ('gone', ''), ('move', 'a', 'a/x/b'), ('move', 'a', 'a/b'), ('move', 'a/x', 'a'), ('x',))]
['stands', 'none', 'kind', 'root', 'none', 'within', 'stands', ('x',)]
>>> [disc.do(('move', 'a/x', 'a/y')), disc.rows(), disc.spot(3), disc.spot(1)]
[None, (('a', 'folder', ''), ('a/y', 'file', 'one')), None, ((0, 'a'), 'folder', '', 3)]
>>> [disc.make('file', 'new'), disc.shift(4, None, (1, 'Y')), disc.shift(2, (1, 'y'), None), disc.shift(4, None, (1, 'Y'))]
[4, False, True, True]
>>> [disc.rows()[1], disc.drop(2), disc.drop(4), disc.spot(2)]
[('a/Y', 'file', 'new'), True, False, None]
"""

# What section 5 shows of hearing.py is left out.
DEEDS = """
>>> from allonetree.deeds import deed_text, read_deed
>>> folder, note = ('born', (7, 0), 1, 'folder', None, 'Mine', ''), ('born', (7, 1), 2, 'file', (7, 0), 'a.txt', '')
>>> wrote, moved = ('write', (7, 2), 3, (7, 1), 'one = two', ()), ('put', (4, 0), 3, (7, 1), None, 'b.txt')
>>> again = ('write', (4, 1), 5, (7, 1), '', ((7, 2),))
>>> [deed_text(deed) for deed in (note, wrote, moved, again)]
['born 7.1 2 file 7.0 a.txt', 'write 7.2 3 7.1 - =one = two', 'put 4.0 3 7.1 root b.txt', 'write 4.1 5 7.1 7.2 =']
>>> [read_deed(deed_text(deed)) == deed for deed in (folder, wrote, moved, ('gone', (4, 2), 9, (7, 1), ((4, 1), (7, 2))))]
[True, True, True, True]
>>> def refused(look):
...     try:
...         return look()
...     except ValueError as error:
...         return (type(error).__name__, error.value)
>>> [refused(lambda: read_deed('gone 7.3 0 7.1 -'))]
[('BadText', 'gone 7.3 0 7.1 -')]
"""


class Examples(unittest.TestCase):
    def shows(self, name, text):
        test = doctest.DocTestParser().get_doctest(text, {}, name, None, None)
        told = []
        result = doctest.DocTestRunner(verbose=False).run(test, out=told.append)
        self.assertGreater(result.attempted, 0)
        self.assertEqual(result.failed, 0, "".join(told))

    def test_readme(self):
        self.shows("readme", README.read_text("ascii").replace("```", ""))

    def test_section_4(self):
        self.shows("discs", DISCS)

    def test_section_5(self):
        self.shows("deeds", DEEDS)
