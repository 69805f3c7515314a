"""A live shop at one moment: which events are possible then, and what is there behind them."""

from kitsleft.deeds import behind, is_possible
from kitsleft.liveevents import is_event
from kitsleft.nets import row_holds
from kitsleft.pieces import packs_in, pieces_in, stocks_in, with_number
from kitsleft.rowtools import row_plus, row_with


class Moment:
    """What a live shop has behind its events; it never changes."""

    def __init__(self, shop, owed, holds, handed, events):
        self.shop = shop
        self.owed = owed
        self.holds = holds
        self.handed = handed
        self.events = events


def moment_at_first(shop):
    """The moment ahead of all events."""
    return Moment(shop, (), (), (), ())


def held_at(moment):
    """The row of the numbers of all holds, summed."""
    held = ()
    for _, article, number in moment.holds:
        held = row_plus(held, ((article, number),))
    return held


def asked_at(moment):
    """The row of what is owed and of all holds, summed."""
    return row_plus(moment.owed, held_at(moment))


def holds_by_name(moment):
    """The article and the number of each hold."""
    return {name: (article, number) for name, article, number in moment.holds}


def row_more(sales, article, number):
    """The row with so many pieces of the article more, or, below 0, fewer."""
    return row_with(sales, article, dict(sales).get(article, 0) + number)


def shop_more(shop, article, number):
    """The shop in which so many pieces of the article more are there, or, below 0, fewer."""
    return with_number(shop, article, pieces_in(shop)[article] + number)


def shop_behind(shop, event):
    """The shop behind the event."""
    if event[0] == "give":
        return shop_more(shop, event[1], -1)
    if event[0] == "back":
        return shop_more(shop, event[1], 1)
    if event[0] == "goods":
        return shop_more(shop, event[1], event[2])
    if event[0] in ("build", "apart"):
        return behind(shop, (event,))
    return shop


def owed_behind(moment, event):
    """The row that is owed behind the event."""
    if event[0] == "owe":
        return row_more(moment.owed, event[1], 1)
    if event[0] == "give":
        return row_more(moment.owed, event[1], -1)
    if event[0] == "buy":
        return row_plus(moment.owed, (holds_by_name(moment)[event[1]],))
    return moment.owed


def holds_behind(moment, event):
    """The holds behind the event."""
    if event[0] == "hold":
        return tuple(sorted([*moment.holds, event[1:]]))
    if event[0] in ("free", "buy"):
        return tuple([hold for hold in moment.holds if hold[0] != event[1]])
    return moment.holds


def given_behind(moment, event):
    """The row of what was given behind the event."""
    if event[0] == "give":
        return row_more(moment.handed, event[1], 1)
    if event[0] == "back":
        return row_more(moment.handed, event[1], -1)
    return moment.handed


def moment_behind(moment, event):
    """The moment behind an event that is possible."""
    shop = shop_behind(moment.shop, event)
    owed = owed_behind(moment, event)
    holds = holds_behind(moment, event)
    given = given_behind(moment, event)
    return Moment(shop, owed, holds, given, (*moment.events, event))


def answer_to(moment, event):
    """The answer to an event that is possible."""
    if event[0] in ("hold", "note"):
        return None
    if event[0] in ("free", "buy"):
        return holds_by_name(moment)[event[1]][1]
    if event[0] == "owe":
        return dict(owed_behind(moment, event))[event[1]]
    return pieces_in(shop_behind(moment.shop, event))[event[1]]


def strange_name(shop, event):
    """Why what an event by form names is not of the shop; None if it is."""
    if event[0] in ("owe", "give", "back") and event[1] not in pieces_in(shop):
        return "article"
    if event[0] == "hold" and event[2] not in pieces_in(shop):
        return "article"
    if event[0] == "goods" and event[1] not in stocks_in(shop):
        return "part"
    if event[0] in ("build", "apart") and event[1] not in packs_in(shop):
        return "pack"
    return None


def wrong_hold_or_note(moment, event):
    """Why the name of a hold or a note cannot stand in the event; None if it can."""
    holds = holds_by_name(moment)
    if event[0] == "hold" and event[1] in holds or event[0] == "note" and event in moment.events:
        return "twice"
    if event[0] in ("free", "buy") and event[1] not in holds:
        return "name"
    return None


def wrong_deed(moment, event):
    """Why the pieces that the event moves are not there to be moved; None if they are."""
    if event[0] == "give" and event[1] not in dict(moment.owed):
        return "owed"
    if event[0] == "give" and pieces_in(moment.shop)[event[1]] == 0:
        return "there"
    if event[0] == "back" and event[1] not in dict(moment.handed):
        return "given"
    if event[0] in ("build", "apart") and not is_possible(moment.shop, event):
        return "deed"
    return None


def too_much_asked(moment, event):
    """The reason if what is asked would not hold behind an event that is possible otherwise; None if it would."""
    if event[0] not in ("owe", "hold", "build"):
        return None
    later = moment_behind(moment, event)
    return None if row_holds(later.shop, asked_at(later)) else "short"


def reason_against(moment, event, most):
    """Why any value is not possible as an event, where there can be so many; None if it is possible."""
    if not is_event(event):
        return "shape"
    if len(moment.events) >= most:
        return "full"
    strange = strange_name(moment.shop, event)
    if strange is not None:
        return strange
    wrong = wrong_hold_or_note(moment, event) or wrong_deed(moment, event)
    return wrong or too_much_asked(moment, event)


def moment_of_note(moments, name):
    """The moment at which there was made a note of this name; None if there is none."""
    # Each moment is the first one behind its last event.
    for moment in moments:
        if moment.events and moment.events[-1] == ("note", name):
            return moment
    return None
