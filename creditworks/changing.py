"""Trees put into, cut, joined and taken from, each by way of an asking."""

from creditworks.asking import ask_price, ask_tree, turn_up
from creditworks.binary import bits_of
from creditworks.errors import Mixed
from creditworks.trees import keys_of, tree_of


def put_key(tree, number):
    asked = ask_tree(tree, number)
    if asked[0]:
        return (False, asked[1], asked[2])
    sides = parted(asked[1], number)
    return (True, tree_of(sides[0], number, sides[1]), asked[2])


# Of a tree asked for the number, so that one cut below or above its whole key parts all keys.
def parted(whole, number):
    if whole is None:
        return (None, None)
    if whole[1] < number:
        return (tree_of(whole[0], whole[1], None), whole[2])
    return (whole[0], tree_of(None, whole[1], whole[2]))


def cut_tree(tree, number):
    asked = ask_tree(tree, number)
    sides = parted(asked[1], number)
    return (sides[0], sides[1], asked[2])


def tie_trees(one, other):
    if one is None:
        return (other, [])
    if other is None:
        return (one, [])
    greatest = keys_of(one)[-1]
    if greatest >= keys_of(other)[0]:
        raise Mixed("not all keys of the first are below all of the second")
    turned = turn_up(one, greatest)
    whole = turned[0]
    return (tree_of(whole[0], whole[1], other), turned[1])


def take_key(tree, number):
    asked = ask_tree(tree, number)
    whole = asked[1]
    if not asked[0]:
        return (False, whole, asked[2], [])
    tied = tie_trees(whole[0], whole[2])
    return (True, tied[0], asked[2], tied[1])


def put_price(n):
    return ask_price(n) + bits_of(n + 1)


def tie_price(n, m):
    if n == 0 or m == 0:
        return 0
    return 2 * bits_of(n) + bits_of(n + m) - 2


def take_price(n):
    return 5 * bits_of(n)
