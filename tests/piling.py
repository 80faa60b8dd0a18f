"""Piles that several tests hand in, and what the document says of them, reckoned another way."""

import random
import string


def name_of(number):
    letters = ""
    while True:
        letters = string.ascii_lowercase[number % 26] + letters
        number = number // 26 - 1
        if number < 0:
            return letters


# Of nested tuples (name, key, mark, row of such) for the tops.
def pile_of(*tops):
    held = {}
    for top in tops:
        lay(held, top, None)
    return ([top[0] for top in tops], held)


def lay(held, part, above):
    name, key, mark, below = part
    held[name] = (key, above, mark, tuple(lower[0] for lower in below))
    for lower in below:
        lay(held, lower, name)


# Of each name that its own is not less than the one it hangs on; how many hang where is as point [23] wants.
class Grower:
    def __init__(self, seed, spread, slack):
        self.chance = random.Random(seed)
        self.spread = spread
        self.slack = slack
        self.used = 0

    def part(self, many, mark, floor):
        name = name_of(self.used)
        self.used += 1
        key = floor + self.chance.randrange(self.spread)
        below = []
        for place in range(many):
            marked = self.chance.random() < 0.4
            wants = max(0, place - 1 if marked else place)
            # A key above the floor by one is never less, whatever the texts.
            below.append(self.part(wants + (self.chance.random() < self.slack), marked, key + self.chance.choice((1, 2))))
        return (name, key, mark, below)


def grown_pile(seed, tops=(3, 0, 2, 1), spread=5, slack=0.1):
    grower = Grower(seed, spread, slack)
    return pile_of(*[grower.part(many, False, -3) for many in tops])


# The least pile with a name that has so many below it: F(many + 2) names.
def least_pile(many):
    grower = Grower(0, 1, 0)
    return pile_of(lean_part(grower, many, False, 0))


def lean_part(grower, many, mark, key):
    name = name_of(grower.used)
    grower.used += 1
    below = [lean_part(grower, max(0, place - 1), place > 0, key + 1) for place in range(many)]
    return (name, key, mark, below)


def some_piles():
    told = [([], {}), pile_of(("a", 0, False, ())), pile_of(("b", 5, False, ()), ("a", 5, False, ()))]
    told.extend(grown_pile(seed) for seed in range(6))
    told.extend(grown_pile(seed, (0, 0, 1), 1, 0) for seed in range(3))
    told.extend(grown_pile(seed, (2, 2, 3, 1, 1), 2, 0.2) for seed in range(4))
    told.extend(least_pile(many) for many in range(1, 8))
    return told


# The rows of point [23], one by one.
def plain_form(pile):
    tops, held = pile
    free = [name for name in held if held[name][1] is None]
    if len(tops) != len(set(tops)) or set(tops) != set(free):
        return False
    hung = [(name, held[name][1]) for name in held if held[name][1] is not None]
    holding = [(lower, name) for name in held for lower in held[name][3]]
    if sorted(hung) != sorted(holding):
        return False
    if any(above not in held for name, above in hung):
        return False
    if any((held[name][0], name) < (held[above][0], above) for name, above in hung):
        return False
    if any(held[name][2] for name in free):
        return False
    if any(not ends(held, name) for name in held):
        return False
    return all(len(held[lower][3]) >= place - (1 if held[lower][2] else 0)
               for name in held for place, lower in enumerate(held[name][3]))


def ends(held, name):
    seen = set()
    while name is not None:
        if name in seen:
            return False
        seen.add(name)
        name = held[name][1]
    return True


def plain_pile_credit(pile):
    return len(pile[0]) + 2 * sum(1 for row in pile[1].values() if row[2])


def coming_to(held, name):
    return [name] + [other for lower in held[name][3] for other in coming_to(held, lower)]


def plain_least(pile):
    return sorted((row[0], name) for name, row in pile[1].items())[0][1]


def keys_by_name(pile):
    return {name: row[0] for name, row in pile[1].items()}


def f(number):
    one, other = 1, 1
    for turn in range(number - 1):
        one, other = other, one + other
    return one


def plain_most(n):
    return max([d for d in range(320) if f(d + 2) <= n], default=0)
