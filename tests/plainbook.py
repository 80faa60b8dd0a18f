"""A book kept by plain numbers, lists, sets, sorted rows and dicts: what each row is answered, and its price."""

from tests.grouping import plain_slow
from tests.piling import plain_most
from tests.treeing import bits


def plain_ask(n):
    return 3 * bits(n) - 2 if n else 0


class PlainBook:
    def __init__(self):
        self.kept = {}

    # (answer, price), or None where the row is refused.
    def say(self, row):
        words = row.split(" ")
        if words[0] in ("bits", "figures", "queue", "double", "room", "tree", "pile", "groups"):
            return self.begin(words)
        if any(name not in self.kept for name in words[1:3 if words[0] in ("tie", "pour") else 2]):
            return None
        sort, value = self.kept[words[1]]
        return getattr(self, sort)(value, words)

    def begin(self, words):
        if words[1] in self.kept:
            return None
        begun = {"bits": [0], "figures": [0], "pile": {}}.get(words[0], [])
        if words[0] == "groups":
            begun = [{thing} for thing in range(int(words[2]))]
        self.kept[words[1]] = (words[0], begun)
        return ("ok", 0)

    def bits(self, value, words):
        value[0] += 1
        return (str(value[0]), 2)

    def figures(self, value, words):
        value[0] += 1 if words[0] == "up" else -1
        return (str(value[0]), 2)

    def queue(self, value, words):
        if words[0] == "put":
            value.append(words[2])
            return (str(len(value)), 2)
        return (value.pop(0), 1) if value else None

    def room(self, value, words):
        if words[0] == "put":
            value.append(words[2])
            return (str(len(value)), 3)
        return (value.pop(), 2) if value else None

    def double(self, value, words):
        if words[0] in ("first", "last"):
            value.insert(0 if words[0] == "first" else len(value), words[2])
            return (str(len(value)), 2)
        return (value.pop(0 if words[0] == "shift" else -1), 2) if value else None

    def groups(self, value, words):
        one, other = int(words[2]), int(words[3])
        if not (0 <= one < len(value) and 0 <= other < len(value)):
            return None
        slow = plain_slow(len(value))
        together = other in value[one]
        if words[0] == "same":
            return ("yes" if together else "no", 2 * (slow + 2))
        merged = value[one] | value[other]
        for thing in merged:
            value[thing] = merged
        return ("no" if together else "yes", 3 * slow + 5)

    def tree(self, value, words):
        n = len(value)
        if words[0] == "tie":
            return self.tie(value, words)
        number = int(words[2])
        lower = [key for key in value if key < number]
        if words[0] == "cut":
            if words[3] in self.kept:
                return None
            self.kept[words[3]] = ("tree", value[len(lower):])
            value[:] = lower
            return (str(len(lower)), plain_ask(n))
        if words[0] == "put":
            answer = "old" if number in value else "new"
            value[:] = sorted(set(value) | {number})
            return (answer, plain_ask(n) + bits(n + 1))
        if words[0] == "at":
            return (str(value[number]), plain_ask(n)) if 0 <= number < n else None
        if words[0] == "below":
            return (str(len(lower)), plain_ask(n))
        answer = "yes" if number in value else "no"
        if words[0] == "ask":
            return (answer, plain_ask(n))
        value[:] = [key for key in value if key != number]
        return (answer, 5 * bits(n))

    def tie(self, value, words):
        other = self.kept[words[2]][1]
        if words[1] == words[2] or (value and other and value[-1] >= other[0]):
            return None
        n, m = len(value), len(other)
        value.extend(other)
        self.kept.pop(words[2])
        return (str(n + m), 2 * bits(n) + bits(n + m) - 2 if n and m else 0)

    def pile(self, value, words):
        price = 2 * plain_most(len(value))
        if words[0] == "pour":
            return self.pour(value, words)
        if words[0] == "lay":
            if words[2] in value:
                return None
            value[words[2]] = int(words[3])
            return (str(len(value)), 1)
        if words[0] == "less":
            if words[2] not in value or int(words[3]) >= value[words[2]]:
                return None
            value[words[2]] = int(words[3])
            return ("ok", 4)
        if words[0] == "out":
            return (str(value.pop(words[2])), price + 4) if words[2] in value else None
        if not value:
            return None
        key, name = min((key, name) for name, key in value.items())
        if words[0] == "least":
            return (f"{name} {key}", 0)
        value.pop(name)
        return (f"{name} {key}", price)

    def pour(self, value, words):
        other = self.kept[words[2]][1]
        if words[1] == words[2] or set(value) & set(other):
            return None
        value.update(other)
        self.kept.pop(words[2])
        return (str(len(value)), 0)
