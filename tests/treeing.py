"""Trees that several tests hand in, and what the document says of them, reckoned another way."""

import itertools


def leaf(key):
    return (None, key, None, 1)


def many(tree):
    return 0 if tree is None else many(tree[0]) + 1 + many(tree[2])


def made(left, key, right):
    return (left, key, right, many(left) + 1 + many(right))


# Every tree of just these keys.
def all_trees(keys):
    if not keys:
        return [None]
    return [made(left, key, right) for place, key in enumerate(keys)
            for left, right in itertools.product(all_trees(keys[:place]), all_trees(keys[place + 1:]))]


# The first key is the deepest: each stands left of the next.
def rising(keys):
    tree = None
    for key in keys:
        tree = made(tree, key, None)
    return tree


# The last key is the deepest: each stands right of the one before.
def falling(keys):
    tree = None
    for key in reversed(keys):
        tree = made(None, key, tree)
    return tree


# Deep, and bent at each key.
def zigzag(keys):
    if not keys:
        return None
    rest = zigzag([-key for key in keys[:0:-1]])
    return made(None, keys[0], mirrored(rest))


def mirrored(tree):
    return None if tree is None else made(mirrored(tree[2]), -tree[1], mirrored(tree[0]))


def even(keys):
    if not keys:
        return None
    half = len(keys) // 2
    return made(even(keys[:half]), keys[half], even(keys[half + 1:]))


# Built by putting keys as leaves, in any order.
def grown(keys):
    tree = None
    for key in keys:
        tree = with_leaf(tree, key)
    return tree


def with_leaf(tree, key):
    if tree is None:
        return leaf(key)
    if key < tree[1]:
        return made(with_leaf(tree[0], key), tree[1], tree[2])
    return made(tree[0], tree[1], with_leaf(tree[2], key))


def deep_trees():
    keys = [3 * place - 80 for place in range(60)]
    return [rising(keys), falling(keys), zigzag(keys), even(keys), grown(keys[::7] + keys[3::7] + keys[1::7])]


def sorted_keys(tree):
    return [] if tree is None else sorted_keys(tree[0]) + [tree[1]] + sorted_keys(tree[2])


def plain_credit(tree):
    return 0 if tree is None else len(bin(many(tree))) - 2 + plain_credit(tree[0]) + plain_credit(tree[2])


def plain_way(tree, number):
    if tree is None:
        return []
    if number == tree[1]:
        return [number]
    return [tree[1]] + plain_way(tree[0] if number < tree[1] else tree[2], number)


# A tree in form: tuples of four, keys in order, each many that of its keys.
def in_form(tree):
    keys = sorted_keys(tree)
    return shaped(tree) and all(one < other for one, other in zip(keys, keys[1:]))


def shaped(tree):
    if tree is None:
        return True
    return (type(tree) is tuple and len(tree) == 4 and type(tree[1]) is int and tree[3] == many(tree)
            and shaped(tree[0]) and shaped(tree[2]))


def part_of(tree, key):
    while tree is not None and tree[1] != key:
        tree = tree[0] if key < tree[1] else tree[2]
    return tree


# Numbers at, between, below and above the keys of a tree.
def numbers_about(tree):
    keys = sorted_keys(tree)
    return sorted({number for key in keys for number in (key - 1, key, key + 1)} | {-10 ** 59, 0, 10 ** 60 - 1})


# Lifting and turning as point [18] writes them, from the whole tree down.
def lift(tree, key):
    left, up, right = tree[:3]
    if left is not None and left[1] == key:
        return made(left[0], key, made(left[2], up, right))
    if right is not None and right[1] == key:
        return made(made(left, up, right[0]), key, right[2])
    if key < up:
        return made(lift(left, key), up, right)
    return made(left, up, lift(right, key))


def plain_turning(tree, key):
    way = plain_way(tree, key)
    if len(way) == 2:
        return ("single", lift(tree, key))
    above, highest = way[-2], way[-3]
    if (key < above) == (above < highest):
        return ("straight", lift(lift(tree, above), key))
    return ("bent", lift(lift(tree, key), key))


def plain_trail(tree, key):
    trail = []
    while tree is not None and tree[1] != key:
        trail.append(plain_turning(tree, key))
        tree = trail[-1][1]
    return trail


def bits(number):
    return len(bin(number)) - 2 if number > 0 else 0
