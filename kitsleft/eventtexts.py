"""Events and logs as lines."""

from kitsleft.shoptexts import shop_text


def element_text(element):
    """An element of an event as a word."""
    if not isinstance(element, tuple):
        return f"{element}"
    return ",".join(["+".join(take) if take else "-" for take in element])


def event_line(event):
    """The line of an event by form."""
    return " ".join([element_text(element) for element in event])


def log_lines(log):
    """The list of the lines of a log."""
    lines = shop_text(log[0][1]).split("\n")
    return [f"live {len(lines)}", *lines, *[event_line(event) for event in log[1:]]]
