"""Groups that several tests hand in, and what the document says of them, reckoned another way."""

import itertools
import random

from tests.test_slow import plain_a


def all_groups(n):
    for above in itertools.product(range(n), repeat=n):
        for ranks in itertools.product(range(n), repeat=n):
            if plain_form(list(above), list(ranks)):
                yield (list(above), list(ranks))


# In form by the four rows of point [13]: n moves from anywhere end on a top, if on anything that stays.
def plain_form(above, ranks):
    n = len(above)
    if any(not 0 <= up < n for up in above) or any(rank < 0 for rank in ranks):
        return False
    ends = list(range(n))
    for turn in range(n):
        ends = [above[end] for end in ends]
    if any(above[end] != end for end in ends):
        return False
    if any(above[thing] != thing and ranks[thing] >= ranks[above[thing]] for thing in range(n)):
        return False
    return all(ranks[top] < ends.count(top) for top in set(ends))


def chain(n):
    return ([min(thing + 1, n - 1) for thing in range(n)], list(range(n)))


# One thing of a rank right below a top of another, and as many more as that top's rank wants.
def pair(rank, over, spare=0):
    n = over + 1 + spare
    return ([1] * n, [rank, over] + [0] * (n - 2))


def random_groups(n, seed):
    chance = random.Random(seed)
    order = list(range(n))
    chance.shuffle(order)
    ranks = sorted(chance.randrange(chance.choice((2, 5, n))) for thing in range(n))
    above = [0] * n
    told = [0] * n
    for place, thing in enumerate(order):
        told[thing] = min(ranks[place], place)
    for place, thing in enumerate(order):
        higher = [other for other in order[place + 1:] if told[other] > told[thing]]
        above[thing] = chance.choice(higher[:4] + higher[-1:]) if higher and chance.random() < 0.98 else thing
    return mended(above, told)


# Tops whose rank is too great for their group hang on the highest top of all, or sink.
def mended(above, ranks):
    while not plain_form(above, ranks):
        n = len(above)
        tops = [thing for thing in range(n) if above[thing] == thing]
        highest = max(tops, key=lambda top: ranks[top])
        for top in tops:
            if ranks[top] < ranks[highest]:
                above[top] = highest
        if not plain_form(above, ranks):
            ranks = [max(0, rank - 1) for rank in ranks]
            above = [thing if ranks[above[thing]] <= ranks[thing] else above[thing] for thing in range(n)]
    return (above, ranks)


# The groups of both, the second ones' things numbered on.
def beside(one, other):
    n = len(one[0])
    return (one[0] + [n + up for up in other[0]], one[1] + other[1])


def plain_slow(n):
    return min(k for k in range(10) if plain_a(k, 1) >= n)


def plain_level(rank, over):
    return max(k for k in range(10) if plain_a(k, rank) <= over)


def plain_times(rank, over):
    level = plain_level(rank, over)
    times = 0
    reached = plain_a(level, rank)
    while reached <= over:
        times += 1
        reached = plain_a(level, reached)
    return times


def plain_thing_credit(groups, thing):
    above, ranks = groups
    slow = plain_slow(len(above))
    rank = ranks[thing]
    if above[thing] == thing or rank == 0:
        return slow * rank
    over = ranks[above[thing]]
    return (slow - plain_level(rank, over)) * rank - plain_times(rank, over)


def plain_credit(groups):
    return sum(plain_thing_credit(groups, thing) for thing in range(len(groups[0])))


def plain_way(above, thing):
    way = [thing]
    while above[thing] != thing:
        thing = above[thing]
        way.append(thing)
    return way
