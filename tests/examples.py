"""The examples of the document, section by section, as written there; the later ones in more_examples.py."""

SECTIONS = {}

SECTIONS[4] = """
>>> from allonetree.discs import Disc
>>> disc = Disc()
>>> [disc.do(act) for act in (('folder', 'a'), ('file', 'a/x', 'one'), ('file', 'y', ''), ('move', 'y', 'A/Y'))]
[None, None, None, None]
>>> disc.rows()
(('a', 'folder', ''), ('a/Y', 'file', ''), ('a/x', 'file', 'one'))
>>> [disc.nodes()[0], disc.spot(2), disc.next]
[('', 0, 'folder', '', 3), ((1, 'x'), 'file', 'one', 0), 4]
>>> def refused(act):
...     try:
...         disc.do(act)
...     except ValueError as error:
...         return error.value
>>> [refused(act) for act in (('folder', 'A'), ('file', 'b/x', ''), ('file', 'a', ''), ('gone', ''), ('move', 'a', 'a/x/b'), ('move', 'a', 'a/b'), ('move', 'a/x', 'a'), ('x',))]
['stands', 'none', 'kind', 'root', 'none', 'within', 'stands', ('x',)]
>>> [disc.do(('move', 'a/x', 'a/y')), disc.rows(), disc.spot(3), disc.spot(1)]
[None, (('a', 'folder', ''), ('a/y', 'file', 'one')), None, ((0, 'a'), 'folder', '', 3)]
>>> [disc.make('file', 'new'), disc.shift(4, None, (1, 'Y')), disc.shift(2, (1, 'y'), None), disc.shift(4, None, (1, 'Y'))]
[4, False, True, True]
>>> [disc.rows()[1], disc.drop(2), disc.drop(4), disc.spot(2)]
[('a/Y', 'file', 'new'), True, False, None]
"""

SECTIONS[5] = """
>>> from allonetree.deeds import deed_text, read_deed
>>> from allonetree.hearing import hears, joined, lacks, stamp_of, vector
>>> folder, note = ('born', (7, 0), 1, 'folder', None, 'Mine', ''), ('born', (7, 1), 2, 'file', (7, 0), 'a.txt', '')
>>> wrote, moved = ('write', (7, 2), 3, (7, 1), 'one = two', ()), ('put', (4, 0), 3, (7, 1), None, 'b.txt')
>>> again = ('write', (4, 1), 5, (7, 1), '', ((7, 2),))
>>> [deed_text(deed) for deed in (note, wrote, moved, again)]
['born 7.1 2 file 7.0 a.txt', 'write 7.2 3 7.1 - =one = two', 'put 4.0 3 7.1 root b.txt', 'write 4.1 5 7.1 7.2 =']
>>> [read_deed(deed_text(deed)) == deed for deed in (folder, wrote, moved, ('gone', (4, 2), 9, (7, 1), ((4, 1), (7, 2))))]
[True, True, True, True]
>>> mine, its = (folder, note, wrote), hears((moved,), again)
>>> [vector(joined(mine, its)), joined(mine, its) == joined(its, mine), stamp_of(its), stamp_of(())]
[((4, 2), (7, 3)), True, 6, 1]
>>> [lacks(mine, ((7, 1), (9, 4))) == (note, wrote), lacks(mine, vector(mine)), lacks(mine, ()) == mine]
[True, (), True]
>>> def refused(look):
...     try:
...         return look()
...     except ValueError as error:
...         return (type(error).__name__, error.value)
>>> [refused(lambda: hears(its, wrote)), refused(lambda: hears(mine, ('gone', (7, 1), 9, (7, 0), ()))), refused(lambda: read_deed('gone 7.3 0 7.1 -'))]
[('Early', (7, 0)), ('Unlike', (7, 1)), ('BadText', 'gone 7.3 0 7.1 -')]
"""

SECTIONS[6] = """
>>> from allonetree.moving import chain, is_out, Moves, places
>>> a, b, c = ('born', (1, 0), 1, 'folder', None, 'a', ''), ('born', (1, 1), 2, 'folder', None, 'b', ''), ('born', (1, 2), 3, 'file', (1, 1), 'c', '')
>>> into, back = ('put', (1, 3), 4, (1, 0), (1, 1), 'a'), ('put', (2, 0), 4, (1, 1), (1, 0), 'deep')
>>> places((a, b, c, into))
(((1, 0), (1, 1), 'a'), ((1, 1), None, 'b'), ((1, 2), (1, 1), 'c'))
>>> [places((a, b, c, into, back)) == places((a, b, c, into)), is_out((a, b, c, into, back), (2, 0)), chain((a, b, c, into, back), (1, 0))]
[True, True, ((1, 0), (1, 1))]
>>> moves = Moves()
>>> [moves.added(deed) for deed in (a, b, back, c, into)]
[0, 0, 0, 1, 1]
>>> [moves.places == places((a, b, c, into, back)), moves.many, moves.added(back)]
[True, 5, 0]
>>> early = Moves()
>>> [early.added(c), early.places, early.added(a), early.added(b), early.places]
[0, (), 1, 1, (((1, 0), None, 'a'), ((1, 1), None, 'b'), ((1, 2), (1, 1), 'c'))]
>>> def refused(look):
...     try:
...         return look()
...     except ValueError as error:
...         return error.value
>>> [refused(lambda: is_out((a, b), (1, 2))), refused(lambda: chain((a,), (1, 1))), refused(lambda: moves.added(a[:6])), refused(lambda: moves.added(a[:5] + ('z', '')))]
[(1, 2), (1, 1), ('born', (1, 0), 1, 'folder', None, 'a'), (1, 0)]
"""

SECTIONS[7] = """
>>> from allonetree.living import clashes, live, stands
>>> born = ("born", (1, 0), 1, "folder", None, "notes", "")
>>> file = ("born", (1, 1), 2, "file", (1, 0), "list", "")
>>> first = ("write", (1, 2), 3, (1, 1), "milk", ())
>>> mine = ("write", (1, 3), 4, (1, 1), "milk, bread", ((1, 2),))
>>> its = ("write", (2, 0), 4, (1, 1), "milk, salt", ((1, 2),))
>>> heard = (born, file, first, mine, its)
>>> [live(heard, (1, 1)), live(heard, (1, 0)), clashes(heard)]
[((1, 3), (2, 0)), ((1, 0),), (((1, 1), ((1, 3), (2, 0))),)]
>>> away = ("gone", (3, 0), 5, (1, 0), ((1, 0),))
>>> more = ("gone", (3, 1), 6, (1, 1), ((1, 2), (1, 3)))
>>> [stands((born, file, first, mine, away, more)), stands(heard + (away, more)), live(heard + (away, more), (1, 1))]
[(), ((1, 0), (1, 1)), ((2, 0),)]
>>> stands((born, file, away))
()
"""

SECTIONS[8] = """
>>> from allonetree.pictures import entries, picture
>>> heard = (
...     ("born", (1, 0), 1, "folder", None, "notes", ""), ("born", (1, 1), 2, "file", (1, 0), "list", ""),
...     ("write", (1, 2), 3, (1, 1), "milk", ()), ("write", (1, 3), 4, (1, 1), "milk, bread", ((1, 2),)),
...     ("write", (2, 0), 4, (1, 1), "milk, salt", ((1, 2),)), ("born", (2, 1), 5, "link", (1, 0), "LIST", "notes/list"),
... )
>>> picture(heard)
(('notes', 'folder', ''), ('notes/LIST.also1', 'link', 'notes/list'), ('notes/list', 'file', 'milk, salt'), ('notes/list.clash1', 'file', 'milk, bread'))
>>> [entry[:3] for entry in entries(heard)]
[(('item', (1, 0)), None, 'notes'), (('item', (1, 1)), (1, 0), 'list'), (('item', (2, 1)), (1, 0), 'LIST.also1'), (('beside', (1, 1), (1, 3)), (1, 0), 'list.clash1')]
>>> moved = heard + (("put", (3, 0), 6, (2, 1), None, "Notes"), ("gone", (3, 1), 7, (1, 1), ((1, 3),)))
>>> picture(moved)
(('Notes.also1', 'link', 'notes/list'), ('notes', 'folder', ''), ('notes/list', 'file', 'milk, salt'))
"""

SECTIONS[9] = """
>>> from allonetree.discs import Disc
>>> from allonetree.looking import Look
>>> disc = Disc()
>>> [disc.do(deed) for deed in (('folder', 'a'), ('file', 'a/one', 'x'), ('file', 'two', 'y'))]
[None, None, None]
>>> look = Look(disc)
>>> [look.step() for lap in range(6)], look.standing
(['on', 'on', 'on', 'on', 'on', 'whole'], ((1, (0, 'a'), 'folder', ''), (2, (1, 'one'), 'file', 'x'), (3, (0, 'two'), 'file', 'y')))
>>> other = Look(disc)
>>> [other.step(), disc.do(('move', 'two', 'a/two')), other.step(), other.step(), other.step(), other.standing, other.read]
['on', None, 'on', 'on', 'moved', None, 4]
"""

SECTIONS[10] = """
>>> from allonetree.telling import known_behind, told
>>> standing = ((1, (0, 'a'), 'folder', ''), (2, (1, 'one'), 'file', 'x'))
>>> first = told((), 5, (), standing)
>>> [deed for deed, changes in first]
[('born', (5, 0), 1, 'folder', None, 'a', ''), ('born', (5, 1), 2, 'file', (5, 0), 'one', ''), ('write', (5, 2), 3, (5, 1), 'x', ())]
>>> known = known_behind(known_behind(known_behind((), first[0][1]), first[1][1]), first[2][1])
>>> known
((1, ('item', (5, 0)), (0, 'a'), None, ((5, 0),)), (2, ('item', (5, 1)), (1, 'one'), (5, 2), ((5, 1),)))
>>> heard = tuple([deed for deed, changes in first])
>>> told(heard, 5, known, standing)
()
>>> later = told(heard, 5, known, ((1, (0, 'b'), 'folder', ''), (3, (1, 'ONE'), 'file', 'y')))
>>> [deed for deed, changes in later]
[('put', (5, 3), 4, (5, 0), None, 'b'), ('write', (5, 4), 5, (5, 1), 'y', ((5, 2),)), ('put', (5, 5), 6, (5, 1), (5, 0), 'ONE')]
>>> [changes for deed, changes in later][1]
((2, None), (3, (3, ('item', (5, 1)), (1, 'one'), (5, 4), ((5, 1),))))
>>> [deed for deed, changes in told(heard, 5, known, ())]
[('gone', (5, 3), 4, (5, 0), ((5, 0),)), ('gone', (5, 4), 5, (5, 1), ((5, 2),))]
"""

SECTIONS[11] = """
>>> from allonetree.discs import Disc
>>> from allonetree.placing import due, left, row_behind, shows
>>> heard = (
...     ('born', (1, 0), 1, 'folder', None, 'notes', ''), ('born', (1, 1), 2, 'file', (1, 0), 'list', ''),
...     ('write', (1, 2), 3, (1, 1), 'milk', ()),
... )
>>> more = heard + (('put', (2, 0), 4, (1, 1), None, 'List'), ('write', (2, 1), 5, (1, 1), 'salt', ((1, 2),)))
>>> disc = Disc()
>>> [due(heard, (), disc, ()), left(heard, (), disc), shows(more, ('item', (1, 1)))]
[('make', ('item', (1, 0)), 'folder', ''), (0, 4), ((2, 1), ((1, 1), (2, 0)))]
>>> def placed(deeds, known):
...     found = []
...     for lap in range(9):
...         act = due(deeds, known, disc, ())
...         if act is None or act[0] == 'tell':
...             return (tuple(found), known, act)
...         node = disc.make(act[2], act[3]) if act[0] == 'make' else act[1]
...         row = row_behind(deeds, known, act, node)
...         if act[0] == 'drop':
...             disc.drop(node)
...         elif act[0] == 'shift':
...             disc.shift(node, act[2], act[3])
...         known = tuple(sorted([one for one in known if one[0] != node] + ([] if row is None else [row])))
...         found.append(act[0])
>>> words, known, last = placed(heard, ())
>>> [words, last, disc.rows(), known[1]]
[('make', 'shift', 'make', 'shift'), None, (('notes', 'folder', ''), ('notes/list', 'file', 'milk')), (2, ('item', (1, 1)), (1, 'list'), (1, 2), ((1, 1),))]
>>> [due(more, known, disc, ()), due(more, known, disc, (2,)), left(more, known, disc)]
[('shift', 2, (1, 'list'), None), None, (0, 4)]
>>> [placed(more, known)[0], disc.rows()]
[('shift', 'drop', 'make', 'shift'), (('List', 'file', 'salt'), ('notes', 'folder', ''))]
"""

SECTIONS[12] = """
>>> from allonetree.books import book_line, mending, read_book
>>> from allonetree.discs import Disc
>>> born = ('born', (1, 0), 1, 'file', None, 'a', '')
>>> wrote = ('write', (1, 1), 2, (1, 0), 'b | c', ())
>>> row = (1, ('item', (1, 0)), (0, 'a'), (1, 1), ((1, 0),))
>>> lines = [book_line(one) for one in (('life', 1), ('told', ((1, row[:3] + (None,) + row[4:]),), born), ('told', ((1, row),), wrote), ('shift', row[:2] + (None,) + row[3:]))]
>>> lines
['life 1', 'told 1 item 1.0 at 0 a - 1.0 | born 1.0 1 file root a', 'told 1 item 1.0 at 0 a 1.1 1.0 | write 1.1 2 1.0 - =b | c', 'shift 1 item 1.0 room 1.1 1.0']
>>> disc = Disc()
>>> [disc.do(('file', 'a', 'b | c')), [disc.note(line) for line in lines], disc.shift(1, (0, 'a'), None), disc.make('folder', '')]
[None, [None, None, None, None], True, 2]
>>> [read_book(disc)[0] == (born, wrote), read_book(disc)[1:]]
[True, (((1, ('item', (1, 0)), (0, 'a'), (1, 1), ((1, 0),)),), (1, ('item', (1, 0)), None, (1, 1), ((1, 0),)))]
>>> [mending(disc), disc.note('done 1'), mending(disc), disc.drop(2), mending(disc), read_book(disc)[2]]
[('line', 'done 1'), None, ('drop', 2), True, None, None]
"""
