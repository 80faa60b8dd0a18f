"""Things found and groups joined: whatever was on the way hangs on the top behind it."""

from creditworks.binary import is_count
from creditworks.errors import NoThing
from creditworks.slow import slow_number


def find_top(groups, thing):
    if not is_count(thing) or thing >= len(groups[0]):
        raise NoThing("the groups have no such thing")
    way = way_up(groups[0], thing)
    top = way[-1]
    above = list(groups[0])
    for passed in way:
        above[passed] = top
    return (top, (above, list(groups[1])), way)


def way_up(above, thing):
    way = [thing]
    while above[way[-1]] != way[-1]:
        way.append(above[way[-1]])
    return way


def link_tops(groups, one, other):
    above = list(groups[0])
    ranks = list(groups[1])
    if ranks[one] < ranks[other]:
        above[one] = other
    else:
        above[other] = one
        if ranks[one] == ranks[other]:
            ranks[one] += 1
    return (above, ranks)


def join_groups(groups, one, other):
    first = find_top(groups, one)
    second = find_top(first[1], other)
    if first[0] == second[0]:
        return (False, second[1], first[2], second[2])
    return (True, link_tops(second[1], first[0], second[0]), first[2], second[2])


def find_price(n):
    return slow_number(n) + 2


# Two findings and a linking.
def join_price(n):
    return 2 * find_price(n) + slow_number(n) + 1
