"""The words that texts consist of: what each kind of them says."""

from kitsleft.errors import InvalidText
from kitsleft.kinds import is_name

DIGITS = "0123456789"
MOST_DIGITS = 60


def number_word(word):
    """The number that the word writes; None if it writes none."""
    if not 1 <= len(word) <= MOST_DIGITS or not all([digit in DIGITS for digit in word]):
        return None
    if len(word) > 1 and word[0] == "0":
        return None
    return int(word)


def positive_word(word):
    """The integer from 1 on that the word writes; None if it writes none."""
    return number_word(word) or None


def name_word(word):
    """The word itself if it is a name, else None."""
    return word if is_name(word) else None


def names_word(word):
    """The names, with commas between, that the word writes, in any order; None if it writes none."""
    names = word.split(",")
    return tuple(names) if all([is_name(name) for name in names]) else None


def pair_word(word):
    """The pair that is written as NAME*NUMBER; None if it is none."""
    name, _, digits = word.partition("*")
    number = positive_word(digits)
    return (name, number) if is_name(name) and number is not None else None


def pairs_word(word):
    """The pairs, with commas between, that the word writes, in any order; None if it writes none."""
    pairs = [pair_word(pair) for pair in word.split(",")]
    return None if any([pair is None for pair in pairs]) else tuple(pairs)


def row_word(word):
    """The pairs of a row, or () for -; None if the word writes neither."""
    return () if word == "-" else pairs_word(word)


def apart_word(word):
    """True for yes and False for no, else None."""
    if word == "yes":
        return True
    return False if word == "no" else None


def takes_word(word):
    """The tuples of names, with commas between and + or - within, that the word writes; None if it writes none."""
    takes = [() if take == "-" else tuple(take.split("+")) for take in word.split(",")]
    return tuple(takes) if all([is_name(name) for take in takes for name in take]) else None


# A word of each kind, as what it says, or None if it cannot stand.
READERS = {
    "apart": apart_word,
    "name": name_word,
    "names": names_word,
    "number": number_word,
    "pairs": pairs_word,
    "positive": positive_word,
    "row": row_word,
    "takes": takes_word,
}


def read_words(words, kinds, line, field):
    """The list of what words of these kinds say; the first one of them stands in this line as this field."""
    values = []
    for at, kind in enumerate(kinds):
        reader = READERS[kind]
        value = reader(words[at]) if at < len(words) else None
        # No word says None: there is none here, or it cannot stand.
        if value is None:
            raise InvalidText(line, field + at)
        values.append(value)
    if len(words) > len(kinds):
        raise InvalidText(line, field + len(kinds))
    return values
