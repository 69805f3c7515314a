"""The checker of papers: whether they show that a row holds, or that it does not."""

from kitsleft.kinds import is_integer, is_number, is_one_of, is_positive, is_tuple_of
from kitsleft.pieces import names_in, options_in, packs_in, pieces_in
from kitsleft.refusals import refuse_paper_unless, want_sales


def is_held_form(thing):
    """Whether any value is a triple of "held" and two tuples."""
    return is_tuple_of(thing, 3) and thing[0] == "held" and all([isinstance(told, tuple) for told in thing[1:]])


def is_short_form(thing):
    """Whether any value is a pair of "short" and a tuple."""
    return is_tuple_of(thing, 2) and thing[0] == "short" and isinstance(thing[1], tuple)


def needed_inside(shop, builds, name):
    """How many pieces of it go into the packs that are built, less those that come out of packs taken apart."""
    return sum([dict(sheet).get(name, 0) * builds[pack] for pack, _, _, sheet in shop[2]])


def check_builds(shop, builds):
    """Refuses builds that are not one for each pack."""
    refuse_paper_unless(len(builds) == len(shop[2]), "builds", -1)
    for at, (build, pack) in enumerate(zip(builds, shop[2])):
        fits = is_tuple_of(build, 2) and build[0] == pack[0] and is_integer(build[1])
        refuse_paper_unless(fits, "build", at)


def check_balances(shop, sales, builds):
    """Refuses the first pack of which more is asked than is there with these builds."""
    sold = dict(sales)
    for at, (pack, made, apart, _) in enumerate(shop[2]):
        asked = sold.get(pack, 0) + needed_inside(shop, builds, pack)
        fits = (apart or builds[pack] >= 0) and made + builds[pack] >= asked
        refuse_paper_unless(fits, "balance", at)


def is_gift(options, thing):
    """Whether any value is a triple of a choice, one of its options and an integer from 1 on."""
    if not is_tuple_of(thing, 3) or not is_one_of(thing[0], options):
        return False
    return is_one_of(thing[1], options[thing[0]]) and is_positive(thing[2])


def check_gifts(shop, given):
    """Refuses the first element of a giving that is none, or that does not come behind the one before."""
    options = options_in(shop)
    for at, gift in enumerate(given):
        fits = is_gift(options, gift) and (at == 0 or given[at - 1][:2] < gift[:2])
        refuse_paper_unless(fits, "giving", at)


def check_shares(shop, sales, builds, given):
    """Refuses the first choice that is not given just what it needs, then the first part that is overasked."""
    for at, (choice, _) in enumerate(shop[1]):
        number = sum([many for getter, _, many in given if getter == choice])
        refuse_paper_unless(number == needed_inside(shop, builds, choice), "choice", at)
    sold = dict(sales)
    for at, (part, stock) in enumerate(shop[0]):
        number = sum([many for _, gift, many in given if gift == part])
        asked = number + sold.get(part, 0) + needed_inside(shop, builds, part)
        refuse_paper_unless(asked <= stock, "part", at)


def check_held(shop, sales, builds, given):
    """Refuses a paper that does not show that the row holds."""
    check_builds(shop, builds)
    check_balances(shop, sales, dict(builds))
    check_gifts(shop, given)
    check_shares(shop, sales, dict(builds), given)


def check_prices(shop, prices):
    """Refuses prices that are not one for each article and choice."""
    names = sorted(names_in(shop))
    refuse_paper_unless(len(prices) == len(names), "prices", -1)
    for at, (price, name) in enumerate(zip(prices, names)):
        fits = is_tuple_of(price, 2) and price[0] == name and is_number(price[1])
        refuse_paper_unless(fits, "price", at)


def worth_of(prices, pairs):
    """What these numbers of names are worth together."""
    return sum([number * prices[name] for name, number in pairs])


def check_dear(shop, prices):
    """Refuses the first choice, then the first pack, with which a deed could make worth more what is there."""
    for at, (choice, options) in enumerate(shop[1]):
        refuse_paper_unless(prices[choice] <= min([prices[part] for part in options]), "dear", (1, at))
    packs = packs_in(shop)
    for at, pack in enumerate(packs):
        _, _, apart, sheet = packs[pack]
        worth = worth_of(prices, sheet)
        fits = prices[pack] == worth if apart else prices[pack] <= worth
        refuse_paper_unless(fits, "dear", (2, at))


def check_short(shop, sales, prices):
    """Refuses a paper that does not show that the row does not hold."""
    check_prices(shop, prices)
    table = dict(prices)
    check_dear(shop, table)
    there = list(pieces_in(shop).items())
    refuse_paper_unless(worth_of(table, sales) > worth_of(table, there), "worth", -1)


def lets_hold(shop, sales, thing):
    """Whether the row holds, as the paper shows; what is no paper of it is refused."""
    want_sales(shop, sales)
    refuse_paper_unless(is_held_form(thing) or is_short_form(thing), "shape", -1)
    if is_held_form(thing):
        check_held(shop, sales, thing[1], thing[2])
        return True
    check_short(shop, sales, thing[1])
    return False
