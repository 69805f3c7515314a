"""Shops and rows, read from texts."""

from kitsleft.errors import InvalidText
from kitsleft.kinds import is_number
from kitsleft.refusals import refuse_unless
from kitsleft.words import read_words

# What stands behind the first word of a line.
KINDS = {
    "part": ("name", "number"),
    "choice": ("name", "names"),
    "pack": ("name", "number", "apart", "pairs"),
}
# The first words that a line may have behind one with this first word.
NEXT = {
    "part": ("part", "choice", "pack"),
    "choice": ("choice", "pack"),
    "pack": ("pack",),
}


def shop_of_lines(lines, first):
    """The triple that these lines write, one at least; the first one of them stands at this index of its text."""
    rows = {"part": [], "choice": [], "pack": []}
    possible = ("part",)
    for at, line in enumerate(lines):
        word, *rest = line.split(" ")
        if word not in possible:
            raise InvalidText(first + at, 0)
        rows[word].append(tuple(read_words(rest, KINDS[word], first + at, 1)))
        possible = NEXT[word]
    return (tuple(rows["part"]), tuple(rows["choice"]), tuple(rows["pack"]))


def shop_read(text):
    """The triple that the text writes, perhaps no shop."""
    refuse_unless(isinstance(text, str), "text")
    return shop_of_lines(text.split("\n"), 0)


def row_read(text, *, line=0, field=0):
    """The pairs that the text writes, perhaps no row; it stands in this line as this field."""
    refuse_unless(isinstance(text, str), "text")
    refuse_unless(is_number(line), "line")
    refuse_unless(is_number(field), "field")
    return read_words(text.split(" "), ("row",), line, field)[0]
