"""A number from 0 on, kept by a list of 0 and 1, the least place first, the last one 1."""


def raise_row(row):
    raised = list(row)
    steps = []
    place = 0
    while place < len(raised) and raised[place] == 1:
        raised[place] = 0
        steps.append(place)
        place += 1
    if place == len(raised):
        raised.append(0)
    raised[place] = 1
    steps.append(place)
    return (raised, steps)


def row_worth(row):
    worth = 0
    for figure in reversed(row):
        worth = 2 * worth + figure
    return worth


def row_ones(row):
    return row.count(1)
