"""The definitions of the document, as slow and plain as they stand there, to try the program against."""

from itertools import combinations, combinations_with_replacement, product


def pieces(shop):
    return {row[0]: row[1] for row in shop[0] + shop[2]}


def articles(shop):
    return sorted(pieces(shop))


def netting(shop, sales, floors=None):
    """The netting [6]: turns, asked and left; floors tells turns that are the least possible ones."""
    sold, floors = dict(sales), floors or {}
    packs = {pack[0]: pack for pack in shop[2]}

    def asked(name):
        inner = [(pack[0], dict(pack[3])[name]) for pack in shop[2] if name in dict(pack[3])]
        return sold.get(name, 0) + sum(count * turn(pack) for pack, count in inner)

    def turn(name):
        _, made, apart, _ = packs[name]
        result = asked(name) - made
        if result < 0 and not apart:
            result = 0
        return max(result, floors[name]) if name in floors else result

    turns = {name: turn(name) for name in packs}
    wanted = {row[0]: asked(row[0]) for row in shop[0] + shop[1]}
    left = {name: stock - wanted[name] for name, stock in shop[0]}
    return turns, wanted, left


def shorts(shop, sales, floors=None):
    """All sets of choices that break [7], of ascending size, then as tuples, with their parts."""
    _, wanted, left = netting(shop, sales, floors)
    options = dict(shop[1])
    found = []
    for size in range(1, len(options) + 1):
        for some in combinations(sorted(options), size):
            parts = {part for choice in some for part in options[choice]}
            if sum(wanted[choice] for choice in some) > sum(left[part] for part in parts):
                found.append((some, tuple(sorted(parts))))
    return found


def holds(shop, sales, floors=None):
    """Whether the row holds [7]."""
    left = netting(shop, sales, floors)[2]
    return min(left.values()) >= 0 and not shorts(shop, sales, floors)


def after(shop, there, deed):
    """What is there behind a deed [5]; None if it is not possible."""
    later = dict(there)
    sheet = dict((pack[0], pack[3]) for pack in shop[2]).get(deed[1])
    options = dict(shop[1])
    if deed[0] == 'sell':
        later[deed[1]] -= 1
    elif deed[0] == 'apart':
        later[deed[1]] -= 1
        for name, count in sheet:
            later[name] += count
    else:
        for (name, count), take in zip(sheet, deed[2]):
            if name in options:
                for part in take:
                    later[part] -= 1
            else:
                later[name] -= count
        if min(later.values()) >= 0:
            later[deed[1]] += 1
    return later if min(later.values()) >= 0 else None


def deeds_of(shop):
    """All deeds of the shop, with each taking once, in whatever order."""
    options = dict(shop[1])
    found = [('sell', article) for article in articles(shop)]
    for name, _, apart, sheet in shop[2]:
        if apart:
            found.append(('apart', name))
        takes = [list(combinations_with_replacement(options[other], count)) if other in options else [()]
                 for other, count in sheet]
        found.extend(('build', name, take) for take in product(*takes))
    return found


def behind_all(shop, deeds):
    """What is there behind the deeds; None if one is not possible."""
    there = pieces(shop)
    for deed in deeds:
        there = after(shop, there, deed)
        if there is None:
            return None
    return there


def reachable(shop, states):
    """All that can be there behind deeds "build" and "apart", from one of these states."""
    found = {tuple(sorted(there.items())) for there in states}
    waiting = list(found)
    deeds = [deed for deed in deeds_of(shop) if deed[0] != 'sell']
    while waiting:
        there = dict(waiting.pop())
        for deed in deeds:
            later = after(shop, there, deed)
            if later is not None and tuple(sorted(later.items())) not in found:
                found.add(tuple(sorted(later.items())))
                waiting.append(tuple(sorted(later.items())))
    return [dict(state) for state in found]


def behind_sales(shop, states, order):
    """All that can be there behind the sales in this order, with any deeds between, from one of these states."""
    for article in order:
        states = [after(shop, there, ('sell', article)) for there in reachable(shop, states)]
        states = [there for there in states if there is not None]
    return states


def can_serve(shop, order):
    """Whether some deeds serve the sales in this order."""
    return bool(behind_sales(shop, [pieces(shop)], order))


def rows_to(shop, most):
    """All rows of the shop in which no number is above most."""
    names = articles(shop)
    for numbers in product(range(most + 1), repeat=len(names)):
        yield row(zip(names, numbers))


def row(pairs):
    """The row with these numbers."""
    return tuple(sorted((name, number) for name, number in pairs if number > 0))


def plus(sales, article, number):
    """The row with so many pieces of the article more."""
    numbers = dict(sales)
    numbers[article] = numbers.get(article, 0) + number
    return row(numbers.items())


def alone(shop, article, sales=()):
    """How many pieces of it more the row can have, counted one by one."""
    number = 0
    while holds(shop, plus(sales, article, number + 1)):
        number += 1
    return number


def hand_gets(shop, there, article, pick):
    """Whether a hand without foresight [8] gets a piece; there changes on the way. pick chooses one of the packs."""
    sheets = {pack[0]: dict(pack[3]) for pack in shop[2]}
    soft = [pack[0] for pack in shop[2] if pack[2]]

    def leads(pack):
        return article in sheets[pack] or any(inner in soft and leads(inner) for inner in sheets[pack])
    while there[article] == 0:
        ways = [pack for pack in soft if there[pack] > 0 and leads(pack)]
        if not ways:
            pieces_wanted = [name for name, count in sheets.get(article, {}).items() for _ in range(count)]
            return article in sheets and all(hand_gets(shop, there, name, pick) for name in pieces_wanted)
        pack = pick(ways)
        there[pack] -= 1
        for name, count in sheets[pack].items():
            there[name] += count
    there[article] -= 1
    return True


def held_rows(shop, names):
    """All rows of these articles that hold."""
    most = [range(alone(shop, name) + 1) for name in names]
    return [sales for sales in (row(zip(names, numbers)) for numbers in product(*most)) if holds(shop, sales)]


def at_most(sales, late):
    """Whether no number of the row is above that of late."""
    return all(number <= dict(late).get(article, 0) for article, number in sales)
