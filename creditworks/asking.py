"""Trees asked: the last key looked at is turned until it is the whole tree's."""

from creditworks.binary import bits_of, is_count
from creditworks.errors import NoPlace
from creditworks.trees import many_of, way_to
from creditworks.turning import turn_key


def ask_tree(tree, number):
    if tree is None:
        return (False, None, [])
    turned = turn_up(tree, way_to(tree, number)[-1])
    return (turned[0][1] == number, turned[0], turned[1])


def turn_up(tree, key):
    trail = []
    whole = tree
    while whole[1] != key:
        turning = turn_key(whole, key)
        trail.append(turning)
        whole = turning[1]
    return (whole, trail)


def key_at(tree, place):
    if not is_count(place) or place >= many_of(tree):
        raise NoPlace("the tree has no such place")
    key = key_in_order(tree, place)
    turned = turn_up(tree, key)
    return (key, turned[0], turned[1])


def key_in_order(tree, place):
    part = tree
    ahead = place
    while ahead != many_of(part[0]):
        if ahead < many_of(part[0]):
            part = part[0]
        else:
            ahead -= many_of(part[0]) + 1
            part = part[2]
    return part[1]


# No key lies between the number and the key that is turned up for it.
def count_below(tree, number):
    asked = ask_tree(tree, number)
    whole = asked[1]
    if whole is None:
        return (0, None, [])
    below = many_of(whole[0])
    if whole[1] < number:
        below += 1
    return (below, whole, asked[2])


def ask_price(n):
    if n == 0:
        return 0
    return 3 * bits_of(n) - 2
