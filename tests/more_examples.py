"""The examples of the document from section 13 on, as written there."""

SECTIONS = {}

SECTIONS[13] = """
>>> from allonetree.discs import Disc
>>> from allonetree.keeping import Keeper
>>> disc = Disc()
>>> [disc.do(('file', 'a', 'one')), disc.do(('folder', 'b'))]
[None, None]
>>> keeper = Keeper(disc, 1)
>>> [keeper.look(), keeper.place(), [keeper.look() for lap in range(6)], len(keeper.standing)]
['waits', 'none', ['on', 'on', 'on', 'on', 'on', 'whole'], 2]
>>> [keeper.look(), keeper.place(), [keeper.tell() for lap in range(5)], keeper.rests()]
['waits', 'waits', ['told', 'told', 'told', 'done', 'none'], True]
>>> keeper.heard
(('born', (1, 0), 1, 'file', None, 'a', ''), ('born', (1, 1), 2, 'folder', None, 'b', ''), ('write', (1, 2), 3, (1, 0), 'one', ()))
>>> other = Keeper(Disc(), 2)
>>> [other.take(letter) for letter in keeper.answer(other.ask(), 9)], [other.hear() for lap in range(4)]
([3], ['heard', 'heard', 'heard', 'none'])
>>> [other.place() for lap in range(6)]
['make', 'made', 'shift', 'shifted', 'done', 'make']
>>> later = Keeper(other.disc, 3)
>>> [later.place() for lap in range(7)], other.disc.rows()
(['mended', 'make', 'made', 'shift', 'shifted', 'done', 'none'], (('a', 'file', 'one'), ('b', 'folder', '')))
"""

SECTIONS[14] = r"""
>>> from allonetree.mapping import built, cost, map_of, map_text, read_map, shows_map_of
>>> old, new = 'the cat sat on the mat', 'the cat lay on the mat, on the mat'
>>> told = (('copy', 0, 8), ('text', 'lay'), ('copy', 11, 11), ('text', ','), ('copy', 11, 11))
>>> [built(old, told) == new, cost(told), shows_map_of(old, new, told), cost(map_of(old, new))]
[True, 26, True, 26]
>>> [shows_map_of(old, new, value) for value in ((('text', new),), told[:1], map_of(old, new), list(told))]
[False, False, True, False]
>>> [map_of('', 'ab'), map_of('ab', ''), map_of('abcdefgh', 'cdefghabcdefgh')]
[(('text', 'ab'),), (), (('copy', 2, 6), ('copy', 0, 8))]
>>> [map_text(told).split('\n')[:3], read_map(map_text(told)) == told, read_map(''), map_text(())]
[['copy 0 8', 'text lay', 'copy 11 11'], True, (), '']
>>> def refused(look):
...     try:
...         return look()
...     except ValueError as error:
...         return error.value
>>> [refused(lambda: built('abc', (('copy', 2, 2),))), refused(lambda: read_map('copy 0 1\ncopy 01 1')), refused(lambda: read_map('text '))]
[(('copy', 2, 2),), 2, 1]
"""

SECTIONS[15] = r"""
>>> from allonetree.lettering import answers, ask_letter, Gate
>>> born = ('born', (7, 0), 1, 'file', None, 'a', '')
>>> wrote = ('write', (7, 1), 2, (7, 0), 'the first line, some words', ())
>>> again = ('write', (7, 2), 3, (7, 0), 'the first line, other words', ((7, 1),))
>>> heard = (born, wrote, again)
>>> [ask_letter(()), ask_letter(heard)]
['ask', 'ask 7:3']
>>> answers(heard, 'ask', 2)
('deeds\nborn 7.0 1 file root a\nwrite 7.1 2 7.0 - =the first line, some words', 'deeds\nwrite 7.2 3 7.0 7.1 =the first line, other words')
>>> gate = Gate(())
>>> late = 'deeds\nwrite 7.1 2 7.0 - =the first line, some words'
>>> shown = 'map 7.2 3 7.0 7.1 7.1\ncopy 0 16\ntext other\ncopy 20 6'
>>> [gate.take(letter) for letter in (shown, late, late)]
[(), (), ()]
>>> [gate.waiting, gate.take(answers(heard, 'ask', 1)[0]) == heard, gate.heard == heard, gate.waiting]
[((7, 1), (7, 2)), True, True, ()]
>>> [answers(heard, ask_letter(gate.heard), 5), gate.take('ask 7:1')]
[(), ()]
"""

SECTIONS[16] = """
>>> from allonetree.worlds import World
>>> world = World(('sea', 'hill'))
>>> [world.start('sea', 1), world.start('hill', 2), world.program('sea', ('file', 'list', 'milk')), world.rest(), world.alike()]
[None, None, None, 2, True]
>>> [world.program('sea', ('file', 'list', 'milk, salt')), world.program('hill', ('file', 'LIST', 'milk, bread'))]
[None, None]
>>> [world.rest(), world.alike(), world.rows('hill')]
[2, True, (('list', 'file', 'milk, bread'), ('list.clash1', 'file', 'milk, salt'))]
>>> [world.save('hill'), world.program('hill', ('gone', 'list')), world.fall('hill'), world.back('hill'), world.start('hill', 3)]
[None, None, None, None, None]
>>> [world.program('sea', ('move', 'list.clash1', 'both')), world.rest(), world.rows('sea') == world.rows('hill'), world.rows('sea')]
[None, 2, True, (('both', 'file', 'milk, salt'), ('list', 'file', 'milk, bread'))]
>>> [world.step('sea', 'look'), world.ask('hill'), world.deliver(len(world.letters) - 1), world.letters[-1][:2], world.deliver(0)]
['on', (16,), 'answered', ('hill', 'sea'), 'answered']
"""

SECTIONS[17] = """
>>> from allonetree.history import past, path_of, restored, versions
>>> from allonetree.pictures import picture
>>> heard = (('born', (1, 0), 1, 'folder', None, 'a', ''), ('born', (1, 1), 2, 'file', (1, 0), 'x', ''), ('write', (1, 2), 3, (1, 1), 'one', ()))
>>> heard = heard + (('write', (1, 3), 4, (1, 1), 'two', ((1, 2),)), ('write', (2, 0), 4, (1, 1), 'three', ((1, 2),)))
>>> versions(heard, (1, 1))
(((1, 2), 'one', 'covered'), ((1, 3), 'two', 'beside'), ((2, 0), 'three', 'shown'))
>>> [path_of(heard, (1, 1)), path_of(heard, None), picture(past(heard, 3))]
['a/x', '', (('a', 'folder', ''), ('a/x', 'file', 'one'))]
>>> [restored(heard, dot) for dot in ((1, 2), (1, 3), (2, 0))]
[('file', 'a/x', 'one'), ('file', 'a/x', 'two'), None]
>>> later = heard + (('gone', (2, 1), 5, (1, 1), ((1, 3), (2, 0))), ('gone', (2, 2), 6, (1, 0), ((1, 0),)))
>>> [picture(later), path_of(later, (1, 1)), restored(later, (2, 0))]
[(), None, ('file', 'x', 'three')]
"""

SECTIONS[18] = r"""
>>> from allonetree.desk import Desk
>>> from allonetree.journals import journal, read_journal
>>> desk = Desk('names a b\ndeeds\nstart a 1\nstart b 2')
>>> [desk.say(line) for line in ('program a folder notes', 'program a file notes/one hello there', 'rows a', 'rows b', 'running b')]
['done', 'done', 'notes folder ; notes/one file hello there', 'none', 'yes']
>>> [desk.say(line) for line in ('rest', 'alike', 'rows b')][1:]
['yes', 'notes folder ; notes/one file hello there']
>>> [desk.say(line) for line in ('program b move notes/one two', 'program a file notes/one else', 'rest', 'alike')][3]
'yes'
>>> [desk.say(line) for line in ('rows a', 'rows b')]
['notes folder ; two file else', 'notes folder ; two file else']
>>> [desk.say(line) for line in ('undo', 'rows b', 'undo', 'rows a', 'redo', 'fall a', 'running a')]
['done', 'notes folder ; two file hello there', 'done', 'notes folder ; notes/one file hello there', 'done', 'done', 'no']
>>> [desk.bench.deeds, journal(desk.bench).split('\n')[4:], read_journal(journal(desk.bench)) == desk.bench]
[8, ['program a folder notes', 'program a file notes/one hello there', 'rest', 'program b move notes/one two', 'program a file notes/one else', 'fall a'], True]
"""
