"""Groups: a tuple (above, ranks) of two lists; above has for each thing the one it hangs on, itself for a top."""

from creditworks.slow import reach_up, slow_number


def begin_groups(n):
    return (list(range(n)), [0] * n)


def groups_in_form(above, ranks):
    tops = [top_from(above, thing) for thing in range(len(above))]
    if None in tops:
        return False
    for thing in range(len(above)):
        if ranks[thing] < 0:
            return False
        if above[thing] == thing:
            if ranks[thing] >= tops.count(thing):
                return False
        elif ranks[thing] >= ranks[above[thing]]:
            return False
    return True


# A way that has looked at as many things as there are, and at no top among them, goes round for ever.
def top_from(above, thing):
    at = thing
    for look in range(len(above)):
        if at < 0 or at >= len(above):
            return None
        if above[at] == at:
            return at
        at = above[at]
    return None


def rank_above(groups, thing):
    return groups[1][groups[0][thing]]


# To ask whether a rank is at least A(k, j) it is enough to reach up to one above the rank.
def level_of(groups, thing):
    rank = groups[1][thing]
    over = rank_above(groups, thing)
    level = 0
    while reach_up(level + 1, rank, over + 1) <= over:
        level += 1
    return level


def times_of(groups, thing):
    level = level_of(groups, thing)
    over = rank_above(groups, thing)
    times = 0
    reached = reach_up(level, groups[1][thing], over + 1)
    while reached <= over:
        times += 1
        reached = reach_up(level, reached, over + 1)
    return times


def thing_credit(groups, thing):
    return credit_by(groups, thing, slow_number(len(groups[0])))


# The slow number is the same for all things: it is handed in so that it is reckoned once.
def credit_by(groups, thing, slow):
    rank = groups[1][thing]
    if rank == 0 or groups[0][thing] == thing:
        return slow * rank
    return (slow - level_of(groups, thing)) * rank - times_of(groups, thing)


def groups_credit(groups):
    many = len(groups[0])
    slow = slow_number(many)
    return sum([credit_by(groups, thing, slow) for thing in range(many)])
