"""A number, also below nought, kept by a list of -1, 0 and 1, the least place first, the last one not 0."""

from creditworks.counters import row_worth


def figures_up(row):
    return moved_by(row, 1)


def figures_down(row):
    return moved_by(row, -1)


# Up and down mirror one another, so one walk serves both, with by as the figure that is carried.
def moved_by(row, by):
    moved = list(row)
    steps = []
    place = 0
    while place < len(moved) and moved[place] == by:
        moved[place] = 0
        steps.append(place)
        place += 1
    if place == len(moved):
        moved.append(0)
    moved[place] += by
    steps.append(place)
    # The last figure can become 0 only together with all others, so there are never noughts to cut off behind.
    if figures_credit(moved) == 0:
        moved = []
    return (moved, steps)


# A place counts as it does in a counter, whichever figure stands there.
def figures_worth(row):
    return row_worth(row)


def figures_credit(row):
    return len(row) - row.count(0)
