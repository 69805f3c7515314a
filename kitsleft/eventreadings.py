"""Events and logs, read from lines."""

from kitsleft.errors import InvalidText
from kitsleft.liveevents import FORMS
from kitsleft.shopreadings import shop_of_lines
from kitsleft.words import read_words


def event_of_line(text, line):
    """The event that the text writes, which is the line with this index."""
    word, *rest = text.split(" ")
    if word not in FORMS:
        raise InvalidText(line, 0)
    return (word, *read_words(rest, FORMS[word], line, 1))


def read_event(text):
    """The event that the text writes."""
    return event_of_line(text, 0)


def shop_lines_told(text):
    """How many lines the shop has, as the first line of a log tells."""
    word, *rest = text.split(" ")
    if word != "live":
        raise InvalidText(0, 0)
    return read_words(rest, ("number",), 0, 1)[0]


def read_log(lines):
    """The log that the lines write; its shop is perhaps none."""
    many = shop_lines_told(lines[0] if lines else "")
    of_shop = lines[1:many + 1]
    shop = shop_of_lines(of_shop if of_shop else [""], 1)
    if len(of_shop) < many:
        raise InvalidText(len(lines), 0)
    events = [event_of_line(line, at) for at, line in enumerate(lines) if at > many]
    return (("live", shop), *events)
