"""A live shop as plain as [62] to [64] word it, and many events, to try the program against."""

from tests.events import FORMS
from tests.oracle import after, alone, articles, deeds_of, holds, pieces, row


class Model:

    def __init__(self, shop):
        self.shop = shop
        self.there = pieces(shop)
        self.owed = {name: 0 for name in self.there}
        self.given = {name: 0 for name in self.there}
        self.holds = {}
        self.notes = {}
        self.events = []

    def copy(self):
        other = Model(self.shop)
        other.there, other.owed, other.given = dict(self.there), dict(self.owed), dict(self.given)
        other.holds, other.notes, other.events = dict(self.holds), dict(self.notes), list(self.events)
        return other

    def shop_now(self):
        parts = tuple((name, self.there[name]) for name, _ in self.shop[0])
        packs = tuple((name, self.there[name], apart, sheet) for name, _, apart, sheet in self.shop[2])
        return (parts, self.shop[1], packs)

    def held(self):
        return row((name, sum(number for article, number in self.holds.values() if article == name))
                   for name in self.there)

    def asked(self):
        return row((name, self.owed[name] + dict(self.held()).get(name, 0)) for name in self.there)

    def shown(self):
        shop, asked = self.shop_now(), self.asked()
        return row((name, alone(shop, name, asked)) for name in self.there)

    def reason(self, event, most=40):
        """Why an event by form is not possible; None if it is."""
        word, name = event[0], event[1]
        article = event[2] if word == 'hold' else name
        if len(self.events) == most:
            return 'full'
        if word in ('owe', 'give', 'back', 'hold') and article not in self.there:
            return 'article'
        if word == 'goods' and name not in dict(self.shop[0]):
            return 'part'
        if word in ('build', 'apart') and name not in [pack[0] for pack in self.shop[2]]:
            return 'pack'
        if word == 'hold' and name in self.holds or word == 'note' and name in self.notes:
            return 'twice'
        if word in ('free', 'buy') and name not in self.holds:
            return 'name'
        if word == 'give' and self.owed[name] == 0:
            return 'owed'
        if word == 'give' and self.there[name] == 0:
            return 'there'
        if word == 'back' and self.given[name] == 0:
            return 'given'
        if word in ('build', 'apart') and not self.can_do(event):
            return 'deed'
        later = self.copy()
        later.apply(event)
        if not holds(later.shop_now(), later.asked()):
            assert word in ('owe', 'hold', 'build'), event
            return 'short'
        return None

    def can_do(self, event):
        sheet, options = dict((pack[0], pack[3]) for pack in self.shop[2])[event[1]], dict(self.shop[1])
        if event[0] == 'apart':
            return event in deeds_of(self.shop) and after(self.shop, self.there, event) is not None
        if len(event[2]) != len(sheet):
            return False
        for (name, count), take in zip(sheet, event[2]):
            if len(take) != (count if name in options else 0) or any(part not in options[name] for part in take):
                return False
        return after(self.shop, self.there, event) is not None

    def apply(self, event):
        """Does an event that is possible, and returns its answer."""
        word, name = event[0], event[1]
        self.events.append(event)
        if word == 'note':
            self.notes[name] = (self.shop_now(), self.asked())
        elif word == 'hold':
            self.holds[name] = event[2:]
        elif word == 'owe':
            self.owed[name] += 1
            return self.owed[name]
        elif word in ('free', 'buy'):
            article, number = self.holds.pop(name)
            if word == 'buy':
                self.owed[article] += number
            return number
        else:
            self.move(event)
            return self.there[name]
        return None

    def move(self, event):
        word, name = event[0], event[1]
        if word in ('build', 'apart'):
            self.there = after(self.shop, self.there, event)
        elif word == 'goods':
            self.there[name] += event[2]
        else:
            change = 1 if word == 'back' else -1
            self.there[name] += change
            self.given[name] -= change
            self.owed[name] += min(change, 0)

    def table(self):
        held = dict(self.held())
        return ['%-8s %4d %4d %4d' % (name, self.there[name], self.owed[name], held.get(name, 0))
                for name in articles(self.shop)]


def some_event(model, rng):
    """An event by form, often a possible one, but not always."""
    names = sorted(model.there) + ['nosuch'] * (rng.random() < 0.1) + [name for name, _ in model.shop[1]][:1]
    asked = [name for name in model.there if model.owed[name]] or names
    given = [name for name in model.there if model.given[name]] or names
    parts = [name for name, _ in model.shop[0]]
    holders = ('ann', 'bob', 'eve')
    real = [deed for deed in deeds_of(model.shop) if deed[0] != 'sell']
    deeds = real or [('apart', 'nosuch')]
    likely = [deed for deed in real if after(model.shop, model.there, deed)] or deeds
    some = [('owe', rng.choice(names)), ('give', rng.choice(asked)), ('back', rng.choice(given)),
            ('hold', rng.choice(holders), rng.choice(names), rng.randint(1, 2)), ('free', rng.choice(holders)),
            ('buy', rng.choice(holders)), ('goods', rng.choice(parts), rng.randint(1, 2)),
            rng.choice(likely), rng.choice(likely), rng.choice(deeds), ('note', rng.choice(['noon', 'dawn', 'dusk'])),
            ('owe', rng.choice(names)), ('give', rng.choice(asked))]
    if rng.random() < 0.05:
        return rng.choice(FORMS[rng.choice(sorted(FORMS))][0])
    return rng.choice(some)
