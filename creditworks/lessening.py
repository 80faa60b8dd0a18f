"""A key made less and a name put out: what is cut becomes a top, and what has lost two below it is cut too."""

from creditworks.errors import Lacking, NotLess
from creditworks.hanging import take_top
from creditworks.piles import as_top, standing


def make_less(pile, name, key):
    hold_there(pile, name)
    row = pile[1][name]
    if key >= row[0]:
        raise NotLess("the new key is not less")
    held = dict(pile[1])
    held[name] = (key, row[1], row[2], row[3])
    if row[1] is None or standing(held, name) > standing(held, row[1]):
        return ((list(pile[0]), held), [])
    return cut_off((pile[0], held), name)


def put_out(pile, name):
    hold_there(pile, name)
    if pile[1][name][1] is None:
        return take_top(pile, name)
    cut = cut_off(pile, name)
    taken = take_top(cut[0], name)
    return (taken[0], taken[1], cut[1] + taken[2])


def hold_there(pile, name):
    if name not in pile[1]:
        raise Lacking("the pile has no such name")


def cut_off(pile, name):
    held = dict(pile[1])
    names = names_to_cut(held, name)
    last = held[names[-1]][1]
    for cut in names:
        above = held[cut][1]
        held[above] = without(held[above], cut)
        held[cut] = as_top(held[cut])
    if held[last][1] is not None:
        held[last] = with_mark(held[last])
    return ((pile[0] + names, held), [("cut", cut) for cut in names])


# A top has no mark, so the walk ends there at the latest.
def names_to_cut(held, name):
    names = [name]
    above = held[name][1]
    while held[above][2]:
        names.append(above)
        above = held[above][1]
    return names


def without(row, name):
    return (row[0], row[1], row[2], tuple([lower for lower in row[3] if lower != name]))


def with_mark(row):
    return (row[0], row[1], True, row[3])
