"""The examples of the document, all of them, in their order, each word for word."""

EXAMPLES = r"""
>>> PARTS = (('bulb', 2), ('candle', 1), ('lamp', 4), ('plug', 5))
>>> CHOICES = (('light', ('bulb', 'candle')),)
>>> PACKS = (('box', 1, False, (('lamp', 1), ('light', 1), ('trio', 1))), ('trio', 1, True, (('lamp', 1), ('plug', 2))))
>>> SHOP = (PARTS, CHOICES, PACKS)

>>> from kitsleft.kinds import is_deed, is_row
>>> from kitsleft.shopchecker import lets_shop
>>> [lets_shop(SHOP), is_row(SHOP, (('box', 3),)), is_row(SHOP, (('light', 1),)), is_deed(SHOP, ('build', 'box', ((), ('bulb',), ())))]
[True, True, False, True]
>>> lets_shop((PARTS, (), PACKS))
raises InvalidPaper(word='sheet', at=(0, 1))

>>> from kitsleft.shopparts import inside_of, namers_of, outer_order, there_of
>>> [there_of(SHOP, 'lamp'), there_of(SHOP, 'box'), namers_of(SHOP, 'lamp'), inside_of(SHOP, 'box'), outer_order(SHOP)]
[4, 1, ('box', 'trio'), ('lamp', 'light', 'plug', 'trio'), ('box', 'trio')]

>>> from kitsleft.shopchanges import renamed, with_apart, with_made, without
>>> from kitsleft.shoprows import row_sum
>>> [with_made(SHOP, 'trio', 7)[2][1], renamed(SHOP, (('light', 'amp'), ('trio', 'duo')))[2][0][3], row_sum(SHOP, (('box', 1), ('lamp', 2)), (('lamp', 3),))]
[('trio', 7, True, (('lamp', 1), ('plug', 2))), (('amp', 1), ('duo', 1), ('lamp', 1)), (('box', 1), ('lamp', 5))]
>>> with_apart(SHOP, 'box', True)
raises NotUsable(word='apart', at=-1)
>>> without(SHOP, 'bulb')
raises NotUsable(word='name', at=-1)

>>> from kitsleft.shopreadings import row_read, shop_read
>>> from kitsleft.shoptexts import row_text, shop_text
>>> [shop_text(SHOP).split('\n')[4:6], shop_read(shop_text(SHOP)) == SHOP, row_text((('box', 2), ('trio', 1))), row_read('-')]
[['choice light bulb,candle', 'pack box 1 no lamp*1,light*1,trio*1'], True, 'box*2,trio*1', ()]
>>> shop_read('part a 0\npack b 1 no a*0')
raises InvalidText(line=1, field=4)

>>> from kitsleft.shopclasses import Loose, Sealed, Shop
>>> one = Shop(PARTS, CHOICES, PACKS)
>>> [one['trio'][1], one('lamp'), 'light' in one, len(one), list(one)[:3], (one - ('lamp', 4))('lamp'), Sealed(one)['trio'][2]]
[1, 4, False, 6, ['box', 'bulb', 'candle'], 0, False]
>>> [Loose(PARTS) == Shop.of(('bulb', 2), ('candle', 1), ('lamp', 4), ('plug', 5)), Shop.read(str(one)) == one, one.dropping('box').packings[0][0]]
[True, True, 'trio']
>>> one - ('box', 2)
raises NotUsable(word='goods', at=-1)

>>> from kitsleft.netting import netted
>>> netted(SHOP, (('box', 2), ('trio', 1)))
((('box', 1), ('trio', 1)), (('bulb', 0), ('candle', 0), ('lamp', 2), ('light', 1), ('plug', 2)), (('bulb', 2), ('candle', 1), ('lamp', 2), ('plug', 3)))
>>> [netted(SHOP, ())[0], netted(SHOP, ())[2][2:]]
[(('box', 0), ('trio', -1)), (('lamp', 5), ('plug', 7))]

>>> from kitsleft.holds import givings, is_held, overasked
>>> [is_held(SHOP, (('box', 3),)), overasked(SHOP, (('box', 3),)), overasked(SHOP, (('box', 2), ('bulb', 2), ('candle', 1)))]
[True, None, (('light',), ('bulb', 'candle'))]
>>> givings(SHOP, (('box', 3), ('bulb', 1)))
(('light', 'bulb', 1), ('light', 'candle', 1))
>>> givings(SHOP, (('box', 4),))
raises NotHeld(short=((), ('lamp',)))

>>> from kitsleft.holdchecker import lets_hold
>>> from kitsleft.holdpapers import hold_paper
>>> FOUR = (('box', 4),)
>>> PRICES = (('box', 2), ('bulb', 0), ('candle', 0), ('lamp', 1), ('light', 0), ('plug', 0), ('trio', 1))
>>> [lets_hold(SHOP, (('box', 3),), ('held', (('box', 2), ('trio', 2)), (('light', 'bulb', 2),))), lets_hold(SHOP, FOUR, ('short', PRICES)), lets_hold(SHOP, FOUR, hold_paper(SHOP, FOUR))]
[True, False, False]
>>> lets_hold(SHOP, (('box', 3),), ('held', (('box', 2), ('trio', 0)), (('light', 'bulb', 2),)))
raises InvalidPaper(word='balance', at=1)
>>> lets_hold(SHOP, FOUR, ('short', PRICES[:6] + (('trio', 0),)))
raises InvalidPaper(word='dear', at=(2, 0))

>>> from kitsleft.deeds import behind, is_possible, plan_of, serves
>>> BUILD, APART = ('build', 'box', ((), ('bulb',), ())), ('apart', 'trio')
>>> [is_possible(SHOP, BUILD), is_possible(SHOP, ('apart', 'box')), behind(SHOP, (APART,))[0][2:], behind(SHOP, (BUILD,))[2][0][1]]
[True, False, (('lamp', 5), ('plug', 7)), 2]
>>> SOME = (('box', 2), ('lamp', 1))
>>> plan = plan_of(SHOP, SOME, order=('box', 'lamp', 'box'))
>>> [serves(SHOP, plan, SOME), [deed[1] for deed in plan if deed[0] == 'sell'], serves(SHOP, (('sell', 'box'),), SOME)]
[True, ['box', 'lamp', 'box'], False]
>>> behind(SHOP, (APART, BUILD))
raises NotPossible(at=1)

>>> from kitsleft.planclasses import Plan, Serving
>>> one = Plan(SHOP, (APART, ('sell', 'lamp')))
>>> [len(one), one[0], one(1)[0][2], one.sold_now, APART in one, one.first(1).shop_now[2][1][1], one.first(1).then(Plan(one(1), (('sell', 'lamp'),))) == one]
[2, ('apart', 'trio'), ('lamp', 5), (('lamp', 1),), True, 0, True]
>>> [Serving(SHOP, SOME, 'lamp', 'box', 'box').order_now, Serving(SHOP, SOME).sold_now]
[('lamp', 'box', 'box'), (('box', 2), ('lamp', 1))]
>>> one + APART
raises NotPossible(at=2)

>>> from kitsleft.alone import alone_of, alone_row, are_true_alone, beside, besides
>>> [alone_row(SHOP), alone_of(SHOP, 'lamp'), are_true_alone(SHOP, (('box', 3), ('trio', 3)))]
[(('box', 3), ('bulb', 2), ('candle', 1), ('lamp', 5), ('plug', 7), ('trio', 3)), 5, True]
>>> [beside(SHOP, (('box', 2),), 'trio'), beside(SHOP, (('box', 2), ('trio', 1)), 'lamp'), beside(SHOP, (('box', 4),), 'bulb')]
[2, 2, None]
>>> besides(SHOP, (('box', 3),), 'box', 'trio')
(1, 2, 3, 3)
>>> beside(SHOP, (), 'light')
raises NotUsable(word='article', at=-1)

>>> from kitsleft.breaking import alone_together, breaking_row, is_breaking
>>> [breaking_row(SHOP, (('box', 3), ('plug', 1), ('trio', 2))), breaking_row(SHOP, (('box', 3), ('trio', 1)))]
[(('box', 3), ('trio', 2)), None]
>>> [is_breaking(SHOP, (('box', 3), ('lamp', 2))), is_breaking(SHOP, (('box', 4), ('lamp', 1))), is_breaking(SHOP, (('lamp', 6),))]
[True, False, True]
>>> [alone_together(SHOP), alone_together((PARTS, CHOICES, ()))]
[False, True]

>>> from kitsleft.fairest import fairest_row
>>> from kitsleft.rows import count_rows, greatest_rows, row_above
>>> TWO = ('box', 'trio')
>>> greatest_rows(SHOP, TWO)
((('box', 1), ('trio', 3)), (('box', 2), ('trio', 2)), (('box', 3), ('trio', 1)))
>>> [count_rows(SHOP, TWO), row_above(SHOP, TWO, (('box', 3),)), row_above(SHOP, TWO, (('lamp', 1),))]
[13, (('box', 3), ('trio', 1)), None]
>>> [fairest_row(SHOP, TWO, weights) for weights in ((1, 1), (2, 1), (3, 1))]
[(('box', 2), ('trio', 2)), (('box', 2), ('trio', 2)), (('box', 3), ('trio', 1))]
>>> fairest_row(SHOP, TWO, (1,))
raises NotUsable(word='weights', at=-1)

>>> from kitsleft.handless import Hand, hand_serves
>>> PLAIN = (PARTS, (), (('set', 0, False, (('lamp', 1), ('trio', 1))), PACKS[1]))
>>> [hand_serves(PLAIN, ('set', 'lamp', 'lamp', 'lamp', 'lamp', 'plug')), hand_serves(PLAIN, ('lamp',) * 6)]
[(True, True, True, True, False, True), (True, True, True, True, True, False)]
>>> hand = Hand(PLAIN)
>>> [hand.sell('set'), hand('trio'), hand.sell('trio'), hand.sell('trio'), hand.served_now, len(hand)]
[True, True, True, True, (('set', 1), ('trio', 2)), 3]
>>> [hand.sell('trio'), hand.refused_now, hand.undo(), hand.refused_now, list(hand), 'plug' in hand]
[False, ('trio',), 'trio', (), ['set', 'trio', 'trio'], False]
>>> Hand(SHOP)
raises NotUsable(word='shop', at=-1)

>>> from kitsleft.ahead import built_ahead, holds_behind, lost_row, parted
>>> STIFF = (PARTS, (), (('pair', 0, False, (('lamp', 2),)),))
>>> [built_ahead(SHOP, 'trio', 2)[0][2:], parted(SHOP, 'trio', 1)[0][2:], built_ahead(STIFF, 'pair', 1)[2][0][1]]
[(('lamp', 2), ('plug', 1)), (('lamp', 5), ('plug', 7)), 1]
>>> [holds_behind(STIFF, 'pair', 1, sales) for sales in ((('lamp', 2), ('pair', 1)), (('lamp', 3),))]
[True, False]
>>> [lost_row(SHOP, 'trio', 2), lost_row(STIFF, 'pair', 0), lost_row(STIFF, 'pair', 1) is None]
[None, None, False]
>>> built_ahead(SHOP, 'trio', 3)
raises NotPossible(at=2)

>>> from kitsleft.flat import flat_row, flattened, is_flat, is_soft, same_flat
>>> from kitsleft.holds import is_held
>>> [is_flat(SHOP), is_soft(SHOP, 'trio'), flattened(SHOP)[2][0], same_flat(SHOP), flat_row(SHOP)]
[False, True, ('box', 1, False, (('lamp', 2), ('light', 1), ('plug', 2))), True, None]
>>> GLUED = (PARTS, CHOICES, (PACKS[0], ('trio', 1, False, PACKS[1][3])))
>>> [same_flat(GLUED), is_held(GLUED, flat_row(GLUED)), is_held(flattened(GLUED), flat_row(GLUED))]
[False, True, False]

>>> from kitsleft.days import can_deliver, first_late, is_schedule, lacking_goods
>>> OPEN = (PARTS, (), (PACKS[1],))
>>> ORDERS = ((0, (('trio', 3),)), (2, (('plug', 2),)))
>>> [can_deliver(OPEN, ORDERS, ((1, 'plug', 1),)), first_late(OPEN, ORDERS, ()), first_late(OPEN, ORDERS, ((3, 'plug', 9),))]
[True, 2, 2]
>>> [lacking_goods(OPEN, ORDERS, ()), lacking_goods(OPEN, ((0, (('lamp', 6),)), (4, (('trio', 1),))), ()), is_schedule(OPEN, (ORDERS, None))]
[((2, 'plug', 1),), ((0, 'lamp', 1), (4, 'lamp', 1)), False]

>>> from kitsleft.stockchecker import lets_stocks
>>> from kitsleft.tellback import stocks_behind
>>> SHEETS = (('duo', (('lamp', 2),)), ('trio', (('lamp', 1), ('plug', 2))))
>>> [stocks_behind(SHEETS, (('duo', 2), ('trio', 3))), stocks_behind(SHEETS, (('duo', 0), ('trio', 0))), stocks_behind(SHEETS, (('duo', 1), ('trio', 5)))]
[(('lamp', 4, 5), ('plug', 6, 7)), (('lamp', 0, 1), ('plug', 0, None)), None]
>>> [lets_stocks(SHEETS, (('duo', 1), ('trio', 5)), ('none', 'duo', (('lamp', 'trio'),))), lets_stocks(SHEETS, (('duo', 2), ('trio', 3)), ('fit', (('lamp', 4), ('plug', 7))))]
[False, True]
>>> lets_stocks(SHEETS, (('duo', 2), ('trio', 3)), ('fit', (('lamp', 4), ('plug', 8))))
raises InvalidPaper(word='fits', at=1)

>>> from kitsleft.rules import can_be_false, parting_article, shown_by
>>> [shown_by(SHOP, 'there')[4:], shown_by(SHOP, 'loose')[0], shown_by(SHOP, 'alone')[3:]]
[(('plug', 5), ('trio', 1)), ('box', 3), (('lamp', 5), ('plug', 7), ('trio', 3))]
>>> [parting_article(SHOP, 'loose', 'alone'), parting_article(STIFF, 'loose', 'alone'), [can_be_false(SHOP, rule) for rule in ('there', 'loose', 'alone')]]
['lamp', None, [False, True, True]]

>>> from kitsleft.live import LiveShop
>>> live = LiveShop(SHOP)
>>> [live.more_of('box'), live.owe('box'), live.put_hold('ann', 'box', 1), live.more_of('box'), live.more_of('trio')]
[3, 1, None, 1, 2]
>>> [live.owe('trio'), live.more_of('box'), live.needed()[0], live.givable(), live.barred(('hold', 'bob', 'box', 2))]
[1, 1, (('box', 1), ('trio', 1)), ('box', 'trio'), 'short']

>>> live = LiveShop(SHOP)
>>> [live.do_all(('owe', 'box'), ('owe', 'box'), ('hold', 'ann', 'trio', 1), ('note', 'noon')), live.give('box'), live.barred(('give', 'box'))]
[4, 0, 'there']
>>> [live.build('box', ((), ('candle',), ())), live.build('trio', ((), ())), live.give('box'), live.buy('ann'), live['trio'], live.given_now]
[1, 1, 0, 1, (1, 1, 0), (('box', 2),)]
>>> [live.shop_now[0], live.table()[0], live.asked_then('noon')]
[(('bulb', 2), ('candle', 0), ('lamp', 2), ('plug', 3)), 'box         0    0    0', (('box', 2), ('trio', 1))]
>>> live.build('box', ((), ('candle',), ()))
raises InvalidEvent(event=('build', 'box', ((), ('candle',), ())), reason='deed')

>>> from kitsleft.eventreadings import read_event
>>> from kitsleft.eventtexts import event_line
>>> [event_line(('build', 'box', ((), ('bulb', 'bulb'), ()))), read_event('hold ann box 2'), read_event('build trio -,-')]
['build box -,bulb+bulb,-', ('hold', 'ann', 'box', 2), ('build', 'trio', ((), ()))]
>>> read_event('goods lamp 0')
raises InvalidText(line=0, field=2)

>>> from kitsleft.desk import Desk
>>> from kitsleft.eventtexts import log_lines
>>> desk = Desk()
>>> [desk.say('\n'.join(log_lines((('live', SHOP),)))), desk.say('owe box'), desk.say('hold ann box 2'), desk.say('shown'), desk.say('turns')]
['ok', '1', '-', 'bulb*1,candle*1,lamp*1,plug*3,trio*1', 'box:2 trio:1']
>>> [desk.say('bars owe box'), desk.say('buy ann'), desk.say('owed'), desk.say('undo'), desk.say('holds')]
['short', '2', 'box*3', 'buy ann', 'ann:box:2']
"""
