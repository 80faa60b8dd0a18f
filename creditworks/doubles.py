"""A double: a tuple (left, right) of two lists; its row: the left, the last first, then the right, the first first."""

from creditworks.errors import Empty


def put_first(double, thing):
    return ((double[0] + [thing], list(double[1])), ["laid"])


def put_last(double, thing):
    return ((list(double[0]), double[1] + [thing]), ["laid"])


def take_first(double):
    return take_near(double[0], double[1])


# The last of a row is the first of the mirrored row, whose piles are the same ones the other way round.
def take_last(double):
    taken = take_near(double[1], double[0])
    return (taken[0], (taken[1][1], taken[1][0]), taken[2])


def take_near(near, far):
    if len(near) > 0:
        return (near[-1], (near[:-1], list(far)), ["taken"])
    if len(far) == 0:
        raise Empty("the double has no things")
    half = (len(far) + 1) // 2
    laid = list(reversed(far[:half]))
    thing = laid.pop()
    return (thing, (laid, far[half:]), ["moved"] * len(far) + ["taken"])


def double_row(double):
    return list(reversed(double[0])) + double[1]


def double_credit(double):
    return abs(len(double[0]) - len(double[1]))
