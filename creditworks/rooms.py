"""A room: a tuple (things, size), size a power of two from 4 on; above 4 more than a fourth of it is filled."""

from creditworks.errors import Empty

LEAST_SIZE = 4


def no_room():
    return ([], LEAST_SIZE)


def room_put(room, thing):
    things = room[0]
    size = room[1]
    steps = []
    if len(things) == size:
        size = 2 * size
        steps = moves(things)
    return ((things + [thing], size), steps + ["laid"])


def room_take(room):
    if len(room[0]) == 0:
        raise Empty("the room has no things")
    left = room[0][:-1]
    size = room[1]
    steps = ["taken"]
    if size > LEAST_SIZE and 4 * len(left) <= size:
        size = size // 2
        steps = steps + moves(left)
    return (room[0][-1], (left, size), steps)


def moves(things):
    return ["moved"] * len(things)


def room_credit(room):
    many = len(room[0])
    size = room[1]
    if 2 * many > size:
        return 2 * many - size
    if size > LEAST_SIZE:
        return size // 2 - many
    return 0
