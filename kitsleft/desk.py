"""A desk: it is told rows of words, and answers what its live shop does."""

from kitsleft.errors import InvalidRow, InvalidText
from kitsleft.eventreadings import read_event, read_log
from kitsleft.eventtexts import event_line
from kitsleft.kinds import is_name
from kitsleft.live import LiveShop
from kitsleft.shoptexts import row_text, shop_text


def spaced(words):
    """The words with single spaces between, or - for none."""
    return " ".join(words) if words else "-"


def thing_text(thing):
    """A number or a word as it is answered, or - for None."""
    return "-" if thing is None else f"{thing}"


def tell_undo(live):
    """Takes back the last event, and tells its line."""
    return event_line(live.undo())


def tell_events(live):
    """How many events there are."""
    return f"{len(live)}"


def tell_log(live):
    """The lines of the events."""
    return str(live)


def tell_owed(live):
    """The row that is owed."""
    return row_text(live.owed_now)


def tell_held(live):
    """The row of the numbers of the holds."""
    return row_text(live.held_now)


def tell_asked(live):
    """The row that is asked."""
    return row_text(live.asked_now)


def tell_given(live):
    """The row of what was given."""
    return row_text(live.given_now)


def tell_shown(live):
    """The row of how many more can be asked."""
    return row_text(live.shown())


def tell_holds(live):
    """The holds."""
    return spaced([f"{name}:{article}:{number}" for name, article, number in live.holds_now])


def tell_turns(live):
    """How many of each pack are to be built, or, below 0, taken apart."""
    return spaced([f"{pack}:{turn}" for pack, turn in live.needed()[0]])


def tell_givable(live):
    """The articles that can be given."""
    return spaced(live.givable())


def tell_table(live):
    """The strings of the table."""
    return " / ".join(live.table())


def tell_shop(live):
    """The lines of the shop as it lies there."""
    return shop_text(live.shop_now).replace("\n", " / ")


# What is told of the live shop for a row that is one word.
TELLERS = {
    "undo": tell_undo,
    "events": tell_events,
    "log": tell_log,
    "owed": tell_owed,
    "held": tell_held,
    "asked": tell_asked,
    "given": tell_given,
    "shown": tell_shown,
    "holds": tell_holds,
    "turns": tell_turns,
    "givable": tell_givable,
    "table": tell_table,
    "shop": tell_shop,
}


def tell_there(live, name):
    """How many pieces of the article are there."""
    return f"{live[name][0]}"


def tell_more(live, name):
    """How many pieces of the article more can be asked."""
    return f"{live.more_of(name)}"


def tell_then(live, name):
    """The row that was asked at the note."""
    return row_text(live.asked_then(name))


# What is told of the live shop for a row of this word and a name.
NAME_TELLERS = {"there": tell_there, "more": tell_more, "then": tell_then}


def begun_shop(row):
    """The triple that the lines of a log without events write; None if the row is no such lines."""
    try:
        log = read_log(row.split("\n"))
    except InvalidText:
        return None
    return log[0][1] if len(log) == 1 else None


def event_told(row, line):
    """The event that the line writes; the row is refused if it writes none."""
    try:
        return read_event(line)
    except InvalidText:
        raise InvalidRow(row) from None


def answer_of(live, row):
    """The answer of the live shop to any row but one that begins another one."""
    if row in TELLERS:
        teller = TELLERS[row]
        return teller(live)
    word, _, rest = row.partition(" ")
    if word in NAME_TELLERS and is_name(rest):
        name_teller = NAME_TELLERS[word]
        return name_teller(live, rest)
    if word == "bars":
        return thing_text(live.barred(event_told(row, rest)))
    return thing_text(live.go(event_told(row, row)))


class Desk:
    """A desk with a live shop, at first none."""

    def __init__(self):
        self._live = None
        self._calls = 0

    def say(self, row):
        """The answer to any string."""
        self._calls = self._calls + 1
        shop = begun_shop(row)
        if shop is not None:
            # Only a shop takes the place of the one before.
            self._live = LiveShop(shop)
            return "ok"
        if self._live is None:
            raise InvalidRow(row)
        return answer_of(self._live, row)

    def tally(self):
        """How many calls of say were started, and how many are finished."""
        # Each one that is started is finished when it ends, also with an error.
        return (self._calls, self._calls)
