"""A queue: a tuple (front, back) of two lists; its row: the front, the last first, then the back, the first first."""

from creditworks.errors import Empty


def queue_put(queue, thing):
    return ((list(queue[0]), queue[1] + [thing]), ["laid"])


def queue_take(queue):
    front = list(queue[0])
    back = list(queue[1])
    steps = []
    if len(front) == 0:
        while len(back) > 0:
            front.append(back.pop())
            steps.append("turned")
    if len(front) == 0:
        raise Empty("the queue has no things")
    thing = front.pop()
    steps.append("taken")
    return (thing, (front, back), steps)


def queue_row(queue):
    return list(reversed(queue[0])) + queue[1]


def queue_credit(queue):
    return len(queue[1])
