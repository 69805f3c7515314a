"""Logs of live shops, and live shops that are made of them again."""

from kitsleft.kinds import is_shop, is_tuple_of
from kitsleft.live import LiveShop
from kitsleft.liveevents import is_event
from kitsleft.refusals import refuse_unless


def is_beginning(thing):
    """Whether any value can be the first element of a log."""
    return is_tuple_of(thing, 2) and thing[0] == "live" and is_shop(thing[1])


def is_log(thing):
    """Whether any value is a log by form, its events possible or not."""
    if not isinstance(thing, tuple) or len(thing) == 0 or not is_beginning(thing[0]):
        return False
    return all([is_event(event) for event in thing[1:]])


def replayed(log):
    """A new live shop behind the events of the log."""
    refuse_unless(is_log(log), "log")
    live = LiveShop(log[0][1])
    live.replay(log[1:])
    return live
