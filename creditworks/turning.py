"""One turning of a tree: a key is brought one or two places nearer to the whole tree's."""

from creditworks.errors import AtTop, Lacking
from creditworks.trees import parts_to, tree_of


def turn_key(tree, key):
    parts = parts_to(tree, key)
    if len(parts) == 0 or parts[-1][1] != key:
        raise Lacking("the tree has no such key")
    if len(parts) == 1:
        raise AtTop("the key is the whole tree's")
    if len(parts) == 2:
        return ("single", lifted(parts[0], parts[1]))
    if stands_left(parts[-2], parts[-1]) == stands_left(parts[-3], parts[-2]):
        return ("straight", hung_in(parts[:-3], straight(parts[-3], parts[-2], parts[-1])))
    return ("bent", hung_in(parts[:-3], bent(parts[-3], parts[-2], parts[-1])))


# In trees the side on which a part stands below another is told by their keys.
def stands_left(up, part):
    return part[1] < up[1]


def lifted(up, part):
    if stands_left(up, part):
        return tree_of(part[0], part[1], tree_of(part[2], up[1], up[2]))
    return tree_of(tree_of(up[0], up[1], part[0]), part[1], part[2])


def straight(top, up, part):
    return lifted(lifted(top, up), part)


def bent(top, up, part):
    part_up = lifted(up, part)
    return lifted(with_side(top, part_up), part_up)


def with_side(up, part):
    if stands_left(up, part):
        return tree_of(part, up[1], up[2])
    return tree_of(up[0], up[1], part)


def hung_in(above, part):
    whole = part
    for up in reversed(above):
        whole = with_side(up, whole)
    return whole
