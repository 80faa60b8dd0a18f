"""A pile: a tuple (tops, held), held a dict from names to tuples (key, above, mark, below), tops those above None."""

from creditworks.errors import Empty, NoName, Twice


def no_pile():
    return ([], {})


def is_name(value):
    if not isinstance(value, str) or len(value) < 1 or len(value) > 8:
        return False
    return all(["a" <= sign <= "z" for sign in value])


# By this pair names are less than one another, keys first.
def standing(held, name):
    return (held[name][0], name)


def as_top(row):
    return (row[0], None, False, row[3])


def pile_in_form(pile):
    tops = pile[0]
    held = pile[1]
    if sorted(tops) != sorted([name for name in held if held[name][1] is None]):
        return False
    return all([ties_in_form(held, name) and comes_to_top(held, name) for name in held])


def ties_in_form(held, name):
    above = held[name][1]
    if above is None:
        if held[name][2]:
            return False
    elif above not in held or held[above][3].count(name) != 1 or standing(held, name) < standing(held, above):
        return False
    return all([hangs_well(held, name, place) for place in range(len(held[name][3]))])


def hangs_well(held, name, place):
    lower = held[name][3][place]
    if lower not in held or held[lower][1] != name:
        return False
    wanted = place - 1 if held[lower][2] else place
    return len(held[lower][3]) >= wanted


# A way of more names than there are goes round.
def comes_to_top(held, name):
    at = name
    for look in range(len(held)):
        if at is None or at not in held:
            break
        at = held[at][1]
    return at is None


def pile_credit(pile):
    marked = [name for name in pile[1] if pile[1][name][2]]
    return len(pile[0]) + 2 * len(marked)


# lesser and greater are F(d + 2) and F(d + 3) for the d reached.
def most_below(n):
    most = 0
    lesser = 1
    greater = 2
    while greater <= n:
        total = lesser + greater
        lesser = greater
        greater = total
        most += 1
    return most


def pile_put(pile, name, key):
    if not is_name(name):
        raise NoName("a name has one to eight small letters")
    if name in pile[1]:
        raise Twice("the name is in the pile")
    held = dict(pile[1])
    held[name] = (key, None, False, ())
    return (pile[0] + [name], held)


def pour_piles(one, other):
    held = dict(one[1])
    for name in other[1]:
        if name in held:
            raise Twice("a name is in both piles")
        held[name] = other[1][name]
    return (one[0] + other[0], held)


# No name is less than the one it hangs on, so the least of the tops is the least of all.
def least_name(pile):
    if len(pile[0]) == 0:
        raise Empty("the pile has no names")
    return min(pile[0], key=lambda name: standing(pile[1], name))
