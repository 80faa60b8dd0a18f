"""A top taken out of a pile, and the others hung on one another until no two have as many below them."""

from creditworks.piles import as_top, least_name, standing


def take_least(pile):
    name = least_name(pile)
    taken = take_top(pile, name)
    return (name, taken[0], taken[1], taken[2])


def take_top(pile, name):
    held = dict(pile[1])
    row = held.pop(name)
    tops = [top for top in pile[0] if top != name]
    steps = []
    for lower in row[3]:
        held[lower] = as_top(held[lower])
        tops.append(lower)
        steps.append(("free", lower))
    hung = hang_alike((tops, held))
    return (row[0], hung[0], steps + hung[1])


# alone has, by how many are below it, each top looked at so far: as soon as two are alike one of them is hung.
def hang_alike(pile):
    held = dict(pile[1])
    alone = {}
    steps = []
    for top in pile[0]:
        on = top
        while len(held[on][3]) in alone:
            name = alone.pop(len(held[on][3]))
            if standing(held, name) < standing(held, on):
                lesser = name
                name = on
                on = lesser
            hang(held, name, on)
            steps.append(("hang", name, on))
        alone[len(held[on][3])] = on
    return (([top for top in pile[0] if held[top][1] is None], held), steps)


def hang(held, name, on):
    row = held[name]
    held[name] = (row[0], on, False, row[3])
    row = held[on]
    held[on] = (row[0], row[1], row[2], row[3] + (name,))
