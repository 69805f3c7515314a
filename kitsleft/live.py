"""A live shop: it follows a shop while it sells, and keeps what was promised possible."""

from kitsleft.errors import InvalidEvent, NothingToUndo
from kitsleft.eventtexts import event_line
from kitsleft.kinds import is_one_of
from kitsleft.livemoments import answer_to, asked_at, held_at, moment_at_first, moment_behind
from kitsleft.livemoments import moment_of_note, reason_against
from kitsleft.nets import most_more, net_sets
from kitsleft.pieces import pieces_in
from kitsleft.refusals import refuse_unless, want_article
from kitsleft.rowtools import row_of
from kitsleft.shopchecker import lets_shop
from kitsleft.shopparts import articles_of


class LiveShop:
    """A shop, what is owed and held of it, what was given, and all events so far."""

    MOST = 40

    def __init__(self, shop):
        lets_shop(shop)
        self._articles = articles_of(shop)
        # The moments behind no event, behind the first one, and so on.
        self._moments = (moment_at_first(shop),)
        self._calls = 0

    @property
    def shop_now(self):
        """The shop as it lies there."""
        return self._moments[-1].shop

    @property
    def owed_now(self):
        """The row of what is sold, but not given yet."""
        return self._moments[-1].owed

    @property
    def given_now(self):
        """The row of what was given."""
        return self._moments[-1].handed

    @property
    def holds_now(self):
        """The set of the triples of the name, the article and the number of each hold."""
        return self._moments[-1].holds

    @property
    def held_now(self):
        """The row of the numbers of all holds, summed."""
        return held_at(self._moments[-1])

    @property
    def asked_now(self):
        """The row of what is owed and of all holds, summed."""
        return asked_at(self._moments[-1])

    def more_of(self, article):
        """How many pieces of the article more can be asked."""
        want_article(self.shop_now, article)
        return most_more(self.shop_now, self.asked_now, article)

    def shown(self):
        """The row of how many pieces of each article more can be asked."""
        asked = self.asked_now
        return row_of({article: most_more(self.shop_now, asked, article) for article in self._articles})

    def needed(self):
        """The netting of what is asked: sets of the turns, of what is asked of each name, of what is left."""
        return net_sets(self.shop_now, self.asked_now)

    def givable(self):
        """The set of the articles of which a piece is owed and one is there."""
        there = pieces_in(self.shop_now)
        return tuple([article for article, _ in self.owed_now if there[article] > 0])

    def owe(self, article):
        """One piece of the article more is owed."""
        return self.go(("owe", article))

    def give(self, article):
        """One piece of the article that is owed is given."""
        return self.go(("give", article))

    def take_back(self, article):
        """One piece of the article that was given is there again."""
        return self.go(("back", article))

    def put_hold(self, name, article, number):
        """So many pieces of the article are held under this name."""
        return self.go(("hold", name, article, number))

    def free(self, name):
        """The hold of this name is there no longer."""
        return self.go(("free", name))

    def buy(self, name):
        """The pieces of the hold of this name are owed instead."""
        return self.go(("buy", name))

    def add_goods(self, part, number):
        """So many pieces of the part more are there."""
        return self.go(("goods", part, number))

    def build(self, pack, takes):
        """One piece of the pack is built."""
        return self.go(("build", pack, takes))

    def take_apart(self, pack):
        """One piece of the pack is taken apart."""
        return self.go(("apart", pack))

    def note(self, name):
        """There is a note of this moment."""
        return self.go(("note", name))

    def go(self, event):
        """Applies the event, and returns its answer."""
        self._calls = self._calls + 1
        return self._apply(event)

    def replay(self, events):
        """Applies the events of a log; they count as no operations."""
        for event in events:
            self._apply(event)

    def _apply(self, event):
        reason = self.barred(event)
        if reason is not None:
            raise InvalidEvent(event, reason)
        moment = self._moments[-1]
        self._moments = (*self._moments, moment_behind(moment, event))
        return answer_to(moment, event)

    def __call__(self, event):
        """Applies the event, and returns its answer."""
        return self.go(event)

    def __getitem__(self, article):
        """How many pieces of the article are there, are owed, and are on hold."""
        want_article(self.shop_now, article)
        there = pieces_in(self.shop_now)
        return (there[article], dict(self.owed_now).get(article, 0), dict(self.held_now).get(article, 0))

    def __contains__(self, thing):
        return is_one_of(thing, self._articles)

    def __iter__(self):
        return iter(self._articles)

    def __len__(self):
        return len(self._moments[-1].events)

    def __eq__(self, other):
        return isinstance(other, LiveShop) and self.log() == other.log()

    def __str__(self):
        events = self._moments[-1].events
        if len(events) == 0:
            return "-"
        return " / ".join([event_line(event) for event in events])

    def tried(self, *events):
        """The shop, what is asked and what was given after these events, which are not kept."""
        moment = self._moments[-1]
        for event in events:
            reason = reason_against(moment, event, self.MOST)
            if reason is not None:
                raise InvalidEvent(event, reason)
            moment = moment_behind(moment, event)
        return (moment.shop, asked_at(moment), moment.handed)

    def undo(self):
        """Takes back the last event, and returns it."""
        self._calls = self._calls + 1
        if len(self._moments) == 1:
            raise NothingToUndo(0)
        event = self._moments[-1].events[-1]
        self._moments = self._moments[:-1]
        return event

    def do_all(self, *events, keep=False):
        """Applies the events, and returns how many; all of them, or with keep those ahead of an error."""
        self._calls = self._calls + 1
        refuse_unless(isinstance(keep, bool), "keep")
        moments = self._moments
        for event in events:
            reason = reason_against(moments[-1], event, self.MOST)
            if reason is not None:
                if keep:
                    self._moments = moments
                raise InvalidEvent(event, reason)
            moments = (*moments, moment_behind(moments[-1], event))
        self._moments = moments
        return len(events)

    def tally(self):
        """How many operations were started, and how many are finished."""
        # Each one that is started is finished when its call ends, also with an error.
        return (self._calls, self._calls)

    def barred(self, event):
        """Why any value is not possible as an event; None if it is."""
        return reason_against(self._moments[-1], event, self.MOST)

    def table(self):
        """A string for each article: its name, and how many pieces are there, are owed, and are on hold."""
        lines = []
        for article in self._articles:
            there, owed, held = self[article]
            lines.append(f"{article:<8} {there:>4} {owed:>4} {held:>4}")
        return lines

    def shop_then(self, name):
        """The shop as it was at the note of this name."""
        return self._at_note(name).shop

    def asked_then(self, name):
        """The row that was asked at the note of this name."""
        return asked_at(self._at_note(name))

    def _at_note(self, name):
        moment = moment_of_note(self._moments, name)
        refuse_unless(moment is not None, "name")
        return moment

    def log(self):
        """The shop of the beginning, and all events."""
        return (("live", self._moments[0].shop), *self._moments[-1].events)
