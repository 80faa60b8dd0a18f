"""A tree: None or a tuple (left, key, right, many), the keys in left less and those in right greater than the key."""

from creditworks.binary import bits_of


def tree_of(left, key, right):
    return (left, key, right, many_of(left) + 1 + many_of(right))


def many_of(tree):
    if tree is None:
        return 0
    return tree[3]


# A tree may be as deep as it has keys, so its parts are gathered without calls within calls.
def parts_of(tree):
    parts = []
    waiting = [tree]
    while len(waiting) > 0:
        part = waiting.pop()
        if part is not None:
            parts.append(part)
            waiting.append(part[0])
            waiting.append(part[2])
    return parts


def keys_of(tree):
    return sorted([part[1] for part in parts_of(tree)])


def parts_to(tree, number):
    parts = []
    part = tree
    while part is not None:
        parts.append(part)
        if number == part[1]:
            break
        part = part[0] if number < part[1] else part[2]
    return parts


def way_to(tree, number):
    return [part[1] for part in parts_to(tree, number)]


def tree_credit(tree):
    return sum([bits_of(part[3]) for part in parts_of(tree)])
