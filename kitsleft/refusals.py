"""Refuses parameters and papers that are not as they must be."""

from kitsleft.errors import InvalidPaper, NotUsable
from kitsleft.kinds import is_number, is_one_of, is_row
from kitsleft.pieces import options_in, pieces_in, sheets_in, stocks_in


def refuse_unless(fits, word):
    """Refuses the parameter called word unless it fits."""
    if not fits:
        raise NotUsable(word, -1)


def refuse_paper_unless(fits, word, at):
    """Refuses a paper for the reason word, at this place, unless it fits."""
    if not fits:
        raise InvalidPaper(word, at)


def want_part(shop, part):
    """Refuses what is no name of a part."""
    refuse_unless(is_one_of(part, stocks_in(shop)), "part")


def want_choice(shop, choice):
    """Refuses what is no name of a choice."""
    refuse_unless(is_one_of(choice, options_in(shop)), "choice")


def want_pack(shop, pack):
    """Refuses what is no name of a pack."""
    refuse_unless(is_one_of(pack, sheets_in(shop)), "pack")


def want_article(shop, article):
    """Refuses what is no name of an article."""
    refuse_unless(is_one_of(article, pieces_in(shop)), "article")


def want_number(number):
    """Refuses what is no number."""
    refuse_unless(is_number(number), "number")


def want_sales(shop, sales):
    """Refuses what is no row."""
    refuse_unless(is_row(shop, sales), "sales")
