"""Rules by which a shop shows numbers of its articles."""

from kitsleft.alone import alone_row
from kitsleft.kinds import is_one_of
from kitsleft.nets import row_holds
from kitsleft.pieces import pieces_in
from kitsleft.refusals import refuse_unless
from kitsleft.rowtools import row_of
from kitsleft.shopparts import articles_of

RULES = ("there", "loose", "alone")


def all_rigid(shop):
    """The shop in which no pack can be taken apart."""
    packs = [(pack, made, False, sheet) for pack, made, _, sheet in shop[2]]
    return (shop[0], shop[1], tuple(packs))


def row_by(shop, rule):
    """The row that one of the rules shows."""
    if rule == "there":
        return row_of(pieces_in(shop))
    if rule == "loose":
        return alone_row(all_rigid(shop))
    return alone_row(shop)


def shown_by(shop, rule):
    """The row that the rule shows."""
    refuse_unless(is_one_of(rule, RULES), "rule")
    return row_by(shop, rule)


def parting_article(shop, rule, late):
    """The first article of which two rules show different numbers; None if there is none."""
    refuse_unless(is_one_of(rule, RULES), "rule")
    refuse_unless(is_one_of(late, RULES), "late")
    early, later = dict(row_by(shop, rule)), dict(row_by(shop, late))
    parting = [article for article in articles_of(shop) if early.get(article, 0) != later.get(article, 0)]
    return parting[0] if parting else None


def can_be_false(shop, rule):
    """Whether the row that the rule shows does not hold."""
    refuse_unless(is_one_of(rule, RULES), "rule")
    return not row_holds(shop, row_by(shop, rule))
