"""The examples of the document, as they stand there."""

from helpers import Case, run_examples

TOLDS = r'''
>>> from headskip.tolds import Blank, FullList, FullSpan, HoledList, HoledSpan, OpenSpan, Told
>>> wide, loose = FullSpan(3, 7), HoledSpan(4, 9, True, False)
>>> [wide.wants, loose.wants, 5 in wide, None in loose, wide.fits([7, 3]), wide.fits([3, 5]), str(loose), str(OpenSpan(2, 2, False, False))]
[(3, 7), (4, None), True, True, True, False, '4 to ~9 holed', '~2 to ~2 open']
>>> [str(wide.normal(2)), str(wide.normal(3)), str(loose.normal(2)), str(HoledSpan(4, 9, False, False).normal(1)), str(FullSpan(6, 6, False, False).normal(5))]
['list 3 7', '3 to 7', 'list 4 holed', 'blank', 'list 6']
>>> [wide.is_in(FullSpan(0, 7, False, True), 3), str(wide.both(FullSpan(5, 7, False, False), 3)), str(FullSpan(1, 7, False, True).both(FullSpan(3, 9, True, False), 3))]
[True, 'None', '3 to 7']
>>> [str(FullList(3).merged(1, FullSpan(5, 9, False, False), 1)), str(FullList(3, 5).merged(2, HoledList(4), 2)), str(wide + 2), str(-loose), str(Told.span_of([5, None, 2]))]
['3 to ~9', 'list 3 4 5 holed', '5 to 9', '~-9 to -4 holed', '2 to 5 holed']
>>> Told.read("list 1 5 5")
raises BadText(0, 3)
'''

FILTERS = r'''
>>> from headskip.filters import Always, Among, AtMost, Filter, Less, Missing, Same
>>> near = Less(4, "x") & ~Same("x", "y") | Missing("y")
>>> [str(near), near.columns, near.constants, near.links, len(near)]
['( ( 4 < x and not x = y ) or y null )', ('x', 'y'), (4,), (('x', 'y'),), 3]
>>> [near.truth({"x": x, "y": y}) for x, y in ((5, 6), (5, 5), (5, None), (None, 6), (4, 4))]
[True, False, True, None, False]
>>> [(~Among("x", 7, 2)).truth({"x": None}), str(~Among("x", 7, 2)), str(near.mirrored()), ~~near == near, near({"x": None, "y": 6})]
[None, 'not x in 2 7', '( ( x < -4 and not y = x ) or y null )', True, False]
>>> Filter.read("( x < 3 and 3 )")
raises BadText(0, 6)
>>> Same("x", "y") & Less("y", "z")
raises TooMany('linked', 2)
>>> near({"x": 1})
raises NoName('y')
'''

LOTS = r'''
>>> from headskip.filters import Less
>>> from headskip.lots import Lots
>>> lots = Lots(((3, None), 2), ((1, 4), 1), ((3, None), 10 ** 20))
>>> [str(lots), lots.rows == 10 ** 20 + 3, len(lots), lots.times((1, 4)), lots.tally(1)[4], str(lots.where(Less("x", 3), "x", "y"))]
['1 4 * 1 ; 3 null * 100000000000000000002', True, 2, 1, 1, '1 4 * 1']
>>> [str(lots.without((1, 4))), Lots.of([(3,), (1,), (3,)]) == Lots(((1,), 1), ((3,), 2)), str(Lots())]
['3 null * 100000000000000000002', True, '-']
>>> lots.without((1, 4), 2)
raises BadRow('row')
>>> Lots.read("3 * 1 ; 1 * 2")
raises BadText(0, 4)
'''

HEADS = r'''
>>> from headskip.heads import Head
>>> from headskip.lots import Lots
>>> head = Head(3, x=FullSpan(3, 7), y=FullSpan(0, 1))
>>> [head.names, head.wanted, head.fits(Lots(((3, 0), 2), ((7, 1), 1))), head.fits(Lots(((3, 0), 2), ((7, 0), 1))), str(head.normal())]
[('x', 'y'), (('x', 3), ('x', 7), ('y', 0), ('y', 1)), True, False, '3 ; x 3 to 7 ; y list 0 1']
>>> tight, loose = Head(2, x=FullSpan(3, 7)), Head(2, x=FullSpan(0, 7, False, True))
>>> [tight <= loose, tight >= loose, str(tight & loose), str(tight | loose), tight.normal() == Head.read("2 ; x list 3 7")]
[True, False, '2 ; x list 3 7', '4 ; x ~0 to 7', True]
>>> str(Head.around(Lots(((5, None), 4), ((2, None), 1)), ["x", "y"]))
'5 ; x 2 to 5 ; y blank'
>>> Head(2, x=FullList(1, 2, 3))
raises BadHead('x')
'''

SPOTS = r'''
>>> from headskip.filters import AtMost, Less, Missing, Same
>>> from headskip.heads import Head
>>> from headskip.spots import Part, alike, deciding_rows, same_truth, spots, within
>>> from headskip.tolds import FullList, FullSpan, OpenSpan
>>> head = Head(5, x=FullSpan(0, 20), y=OpenSpan(3, 30))
>>> [spots(head, Less("x", 8), "x"), spots(head, Less("x", 8), "y"), spots(head, Same("x", "y"), "x")]
[(0, 1, 7, 8, 9, 19, 20), (3, 4, 29, 30, None), (0, 1, 2, 3, 4, 5, 18, 19, 20)]
>>> [list(deciding_rows(Head(2, x=FullList(2, 5)), AtMost("x", 3))), within(Less("x", 8), Less("x", 9)), alike(~Less("x", 8), AtMost(8, "x"))]
[[(2,), (5,)], None, None]
>>> [within(Less("x", 9), Less("x", 8)) == Part(("x",), (8,)), within(Less("x", "y"), AtMost("y", 7)) == Part(("x", "y"), (5, 8))]
[True, True]
>>> [alike(Same("x", "x"), ~Missing("x")), same_truth(Same("x", "x"), ~Missing("x")) == Part(("x",), (None,))]
[None, True]
'''

COVERS = r'''
>>> from headskip.covers import Covers, covers, shows_covers
>>> from headskip.kinds import Kinds, kind_row, kinds, shows_kinds
>>> block, middle = Head(2, x=FullSpan(3, 7)), AtMost(4, "x") & AtMost("x", 6)
>>> found = kinds(block, middle)
>>> [found == Kinds((("x", 3), ("x", 7)), ((),), ((0,), (1,))), covers(found) == Covers((0, None, None, None), (0, 1, 1, 2))]
[True, True]
>>> square = Head(2, x=FullSpan(0, 1), y=FullSpan(0, 1))
>>> both = kinds(square, Same("x", "y"))
>>> [both.wants, both.matching, both.others, kind_row(square, Same("x", "y"), False, (1,)), kind_row(square, Same("x", "y"), True, (0, 3))]
[(('x', 0), ('x', 1), ('y', 0), ('y', 1)), ((0, 2), (1, 3)), ((0, 3), (1, 2)), (1, 0), None]
>>> [covers(both).matching, shows_covers(found, Covers((0, None, None, None), (0, 1, 1, 2))), shows_covers(found, Covers((0, None, None, None), (0, 1, 1, 1)))]
[(0, 1, 1, 2, 1, 1, 2, 2, 1, 2, 1, 2, 2, 2, 2, 2), True, False]
'''

COUNTS = r'''
>>> from headskip.counts import counts, lots_with, matches_of, shows_counts
>>> from headskip.lots import Lots
>>> from headskip.spots import Limit
>>> [counts(block, middle).ranges, counts(Head(3, x=FullSpan(3, 7)), middle).ranges, counts(Head(2, x=FullSpan(3, 7, True, False)), middle).ranges]
[((0, 0),), ((0, 1),), ((0, 1),)]
>>> odd = counts(square, Same("x", "y"))
>>> [str(odd), 1 in odd, odd.minimum, odd.maximum, odd.is_fixed, str(odd + odd), str(odd + counts(Head(1, x=FullSpan(2, 2)), Less("x", 2)))]
['0, 2', False, 0, 2, False, '0, 2, 4', '0, 2']
>>> [lots_with(square, Same("x", "y"), 0) == Lots(((0, 1), 1), ((1, 0), 1)), matches_of(lots_with(square, Same("x", "y"), 2), ("x", "y"), Same("x", "y"))]
[True, 2]
>>> [counts(Head(3, x=FullSpan(1, 9)), AtMost(1, "x"), Limit("x", low)).ranges for low in (5, 10)]
[((1, 2),), ((0, 0),)]
>>> great = Head(10 ** 12, x=FullSpan(0, 1), y=FullSpan(0, 1))
>>> [str(counts(great, Same("x", "y"))), str(counts(great, Less("x", 2))), shows_counts(square, Same("x", "y"), ((0, 0), (2, 2)))]
['0 to 1000000000000', '1000000000000', True]
>>> lots_with(square, Same("x", "y"), 1)
raises NoCount(1)
'''

ENDS = r'''
>>> from headskip.ends import levels, lowest, open_value, possible, sure, surely_below
>>> from headskip.sums import Sums, shows_sums, sums
>>> head = Head(5, x=FullSpan(0, 9), y=FullSpan(0, 1))
>>> zero = Same("y", 0)
>>> [possible(head, zero, "x"), sure(head, zero, "x"), lowest(head, zero, "x"), surely_below(head, zero, "x")]
[9, 0, 0, 9]
>>> surely = Head(4, x=FullSpan(0, 8), y=FullSpan(0, 0))
>>> [possible(surely, zero, "x"), sure(surely, zero, "x"), open_value(surely, zero, "x", 1), open_value(surely, zero, "x", 2)]
[8, 8, None, 8]
>>> three = Head(3, x=FullSpan(-2, 5))
>>> found = sums(three, AtMost(0, "x"), "x")
>>> [found.least, found.greatest, found.much == Lots(((-2,), 1), ((5,), 2)), found.is_fixed]
[5, 10, True, False]
>>> [(v, list(many)) for v, many in levels(Head(2, x=FullSpan(1, 9)), Always(), "x")]
[(9, [(1, 1)]), (1, [(2, 2)])]
'''

SHELVES = r'''
>>> from headskip.heads import Head
>>> from headskip.lots import Lots
>>> from headskip.shelves import Shelf, Table
>>> from headskip.tolds import FullSpan
>>> shelf = Shelf(Head(2, x=FullSpan(3, 7)), Head(1, x=FullSpan(5, 5)))
>>> table = Table(Lots(((3,), 1), ((7,), 1)), Lots(((5,), 1)))
>>> [len(shelf), shelf.names, shelf.fits(table), shelf.sample() == table, Shelf.of(table, "x") == shelf, list(shelf.read_at(table, 1))]
[2, ('x',), True, True, True, [1]]
>>> [str(shelf.with_merged(0)[0]["x"]), shelf.agrees(table, {0: Lots(((3,), 1), ((7,), 1))}), shelf.fits(table.with_block(1, Lots(((6,), 1))))]
['list 3 5 7', True, False]
>>> shelf.read_at(table, 0, 2)
raises NoBlock(2)
'''

QUESTIONS = r'''
>>> from headskip.questions import AtLeast, Greatest, Least, Many, OfColumn, Question, Some, Top, Total
>>> rows = Lots(((4, 0), 1), ((7, 0), 2), ((9, 1), 1), ((None, 0), 1))
>>> [Some(zero).on(("x", "y"), rows), Many(zero).on(("x", "y"), rows), Greatest("x", zero).on(("x", "y"), rows), Least("x", zero).on(("x", "y"), rows), Total("x", zero).on(("x", "y"), rows), Top(4, "x", zero).on(("x", "y"), rows)]
[True, 4, 7, 4, 18, (7, 7, 4)]
>>> [Top(2, "x", zero).joined((7, 4), (), (8,)), Greatest("x", zero).joined(None, 3), str(AtLeast(2, zero)), Top(2, "x", zero).columns]
[(8, 7), 3, 'at least 2 where y = 0', ('x', 'y')]
>>> Question.read("top 5 x where y = 0")
raises BadText(0, 1)
'''

SETTLED = r'''
>>> from headskip.questions import Greatest, Many, Top
>>> from headskip.settled import Settled, Unsettled, settle
>>> shelf = Shelf(Head(2, x=FullSpan(3, 7)), Head(3, x=FullSpan(0, 9)))
>>> some = settle(shelf, Greatest("x", Always()), {})
>>> [bool(some), some.answer, bool(settle(shelf, Many(Less("x", 5)), {})), settle(shelf, Many(Less("x", 5)), {1: Lots(((0,), 1), ((2,), 1), ((9,), 1))}).answer]
[True, 9, False, 3]
>>> [settle(shelf, Top(2, "x", Always()), {}).answer if settle(shelf, Top(2, "x", Always()), {}) else None, settle(shelf, Top(2, "x", Always()), {1: Lots(((0,), 1), ((2,), 1), ((9,), 1))}).answer]
[None, (9, 7)]
'''

LOOK_SETTLED = r'''
>>> from headskip.look_settled import shows_settled, shows_unsettled
>>> found = settle(shelf, Many(Less("x", 5)), {})
>>> [shows_unsettled(shelf, Many(Less("x", 5)), {}, found), shows_settled(shelf, Greatest("x", Always()), {}, some), shows_settled(shelf, Greatest("x", Always()), {}, Settled(8, some.parts))]
[True, True, False]
>>> one, other = Table(Lots(((3,), 1), ((7,), 1)), Lots(((0,), 2), ((9,), 1))), Table(Lots(((3,), 1), ((7,), 1)), Lots(((0,), 1), ((9,), 2)))
>>> [shows_unsettled(shelf, Many(Less("x", 5)), {}, Unsettled(1, one, other)), shows_unsettled(shelf, Greatest("x", Always()), {}, Unsettled(1, one, other))]
[True, False]
'''

NEEDS = r'''
>>> from headskip.needs import Fewest, fewest, must, musts, shows_fewest
>>> shelf = Shelf(head, surely)
>>> ask = Greatest("x", zero)
>>> table = Table(Lots(((0, 0), 2), ((5, 0), 1), ((9, 1), 2)), Lots(((0, 0), 2), ((8, 0), 2)))
>>> [ask(shelf, table), musts(shelf, ask, table), fewest(shelf, ask, table) == Fewest((0,), (0,), 0, ())]
[8, (0,), True]
>>> found = fewest(shelf, AtLeast(4, zero), table)
>>> [found.reads, found.due, found.lack, found.gains, musts(shelf, AtLeast(4, zero), table)]
[(), (), 0, (), ()]
>>> found = fewest(shelf, AtLeast(6, zero), table)
>>> [found.reads, found.lack, found.gains, shows_fewest(shelf, AtLeast(6, zero), table, found)]
[(0,), 1, ((2, 0),), True]
'''

LOSSES = r'''
>>> from headskip.losses import Loss, greatest_loss, loss, shows_loss
>>> from headskip.readers import InOrder, MostFirst, OpenFirst, course
>>> [list(course(OpenFirst(), shelf, ask, table)), OpenFirst()(shelf, ask, {}), loss(InOrder(), shelf, ask, table)]
[[0], 0, 0]
>>> twins = Shelf(head, head)
>>> found = greatest_loss(twins, ask)
>>> [found.number, ask(twins, found.worst), list(course(OpenFirst(), twins, ask, found.worst)), greatest_loss(twins, Some(Less(9, "x"))).number]
[1, 9, [0, 1], 0]
'''

UPKEEP = r'''
>>> from headskip.upkeep import Broken, Come, Gone, Sound, Split, Upkeep, play, shows_sound, sound
>>> book = Upkeep()
>>> three = book.come(book.come(None, 3, [3]), 7, [3, 7])
>>> [str(three), str(book.gone(three, 7, [3])), str(book.come(three, None, [3, 7, None])), str(Upkeep(leave="look").gone(three, 7, [3]))]
['3 to 7', '3 to ~7', '3 to 7 holed', '3 to 3']
>>> [str(told) for told, values in play(book, [Come(0, 3), Come(0, 7), Split((7,))])]
['~3 to ~7', '~3 to ~7']
>>> lazy = Upkeep(leave="keep")
>>> [sound(book) == Sound(True), bool(sound(lazy)), shows_sound(lazy, Broken((Come(0, 3), Come(0, 7), Gone(0, 7)))), sound(Upkeep(begin="stretch", grow="stretch", leave="keep", split="keep")) == Sound(False)]
[True, False, True, True]
>>> Upkeep(grow="bound", begin="keep")
raises BadUpkeep('begin')
'''

DESK = r'''
>>> from headskip.desk import Desk
>>> from headskip.store import Store
>>> desk = Desk(Store(Upkeep(), "x"))
>>> desk.run("put 0 3", "put 0 7", "put 1 5", "head 0", "ask many where x < 6", "settle - greatest x where always")
['ok', 'ok', 'ok', '2 ; x 3 to 7', '2', 'settled 7']
>>> [desk("take 0 7"), desk("head 0"), desk("settle - greatest x where always"), desk("musts many where x < 6")]
['ok', '1 ; x 3 to ~7', 'settled 5', '-']
>>> desk.ask("put 0 x")
raises BadLine(2)
'''


class Examples(Case):
    def test_examples_one_behind_the_other(self):
        names = {}
        for text in (
            TOLDS, FILTERS, LOTS, HEADS, SPOTS, COVERS, COUNTS, ENDS, SHELVES, QUESTIONS, SETTLED, LOOK_SETTLED,
            NEEDS, LOSSES, UPKEEP, DESK,
        ):
            run_examples(self, text, names)
