"""A(k, j), which grows beyond all bounds at once, and the slow number, which hardly grows."""


# Each A(k, ..) tells more than it is handed, so what has come to the most stays there: nothing greater is reckoned.
def reach_up(k, j, most):
    if j >= most:
        return most
    if k == 0:
        return j + 1
    reached = j
    turns = 0
    while turns <= j and reached < most:
        reached = reach_up(k - 1, reached, most)
        turns += 1
    return reached


def slow_number(n):
    k = 0
    while reach_up(k, 1, n) < n:
        k += 1
    return k
