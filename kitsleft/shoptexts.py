"""Shops and rows as texts."""

from kitsleft.kinds import is_counted_name
from kitsleft.refusals import refuse_unless


def pairs_text(pairs):
    """Pairs of a name and a number as one word."""
    return ",".join([f"{name}*{number}" for name, number in pairs])


def shop_text(shop):
    """The lines of the shop, with newlines between."""
    parts, choices, packs = shop
    lines = [f"part {name} {stock}" for name, stock in parts]
    lines.extend([f"choice {name} " + ",".join(options) for name, options in choices])
    for name, made, apart, sheet in packs:
        word = "yes" if apart else "no"
        lines.append(f"pack {name} {made} {word} {pairs_text(sheet)}")
    return "\n".join(lines)


def row_text(sales):
    """The row, or any pairs of a name and a number, as one word."""
    refuse_unless(isinstance(sales, tuple) and all([is_counted_name(pair) for pair in sales]), "sales")
    return pairs_text(sales) if sales else "-"
