"""The eight sorts of things that a book keeps, each doing deeds told by words."""

from creditworks.asking import ask_price, ask_tree, count_below, key_at
from creditworks.changing import cut_tree, put_key, put_price, take_key, take_price, tie_price, tie_trees
from creditworks.counters import raise_row, row_ones, row_worth
from creditworks.doubles import double_credit, double_row, put_first, put_last, take_first, take_last
from creditworks.errors import NoRow
from creditworks.figures import figures_credit, figures_down, figures_up, figures_worth
from creditworks.finds import find_price, find_top, join_groups, join_price
from creditworks.groups import begin_groups, groups_credit
from creditworks.hanging import take_least
from creditworks.lessening import make_less, put_out
from creditworks.piles import least_name, most_below, no_pile, pile_credit, pile_put, pour_piles
from creditworks.queues import queue_credit, queue_put, queue_row, queue_take
from creditworks.rooms import no_room, room_credit, room_put, room_take
from creditworks.trees import many_of, tree_credit

MOST_FIGURES = 60


def number_of(word):
    if not is_number(word):
        raise NoRow("a whole number is written by one to sixty figures, without noughts ahead")
    return int(word)


def is_number(word):
    if word.startswith("-"):
        return are_figures(word[1:]) and word != "-0"
    return are_figures(word)


def are_figures(text):
    if len(text) < 1 or len(text) > MOST_FIGURES:
        return False
    if text.startswith("0") and text != "0":
        return False
    return all(["0" <= sign <= "9" for sign in text])


def yes_or_no(truth):
    return "yes" if truth else "no"


# What a thing keeps and does is its own sort's affair; the book tells the sorts apart by kind.
class Thing:
    def __init__(self, kind):
        self.kind = kind


class Bits(Thing):
    def __init__(self):
        Thing.__init__(self, "bits")
        self.row = []

    def credit(self):
        return row_ones(self.row)

    def do(self, words):
        raised = raise_row(self.row)
        self.row = raised[0]
        return (str(row_worth(self.row)), len(raised[1]), 2)


class Figures(Thing):
    def __init__(self):
        Thing.__init__(self, "figures")
        self.row = []

    def credit(self):
        return figures_credit(self.row)

    def do(self, words):
        moved = figures_up(self.row) if words[0] == "up" else figures_down(self.row)
        self.row = moved[0]
        return (str(figures_worth(self.row)), len(moved[1]), 2)


class Queue(Thing):
    def __init__(self):
        Thing.__init__(self, "queue")
        self.queue = ([], [])

    def credit(self):
        return queue_credit(self.queue)

    def do(self, words):
        if words[0] == "put":
            put = queue_put(self.queue, number_of(words[1]))
            self.queue = put[0]
            return (str(len(queue_row(self.queue))), len(put[1]), 2)
        taken = queue_take(self.queue)
        self.queue = taken[1]
        return (str(taken[0]), len(taken[2]), 1)


class Double(Thing):
    def __init__(self):
        Thing.__init__(self, "double")
        self.double = ([], [])

    def credit(self):
        return double_credit(self.double)

    def do(self, words):
        if words[0] == "shift":
            return self.without_one(take_first(self.double))
        if words[0] == "pop":
            return self.without_one(take_last(self.double))
        thing = number_of(words[1])
        put = put_first(self.double, thing) if words[0] == "first" else put_last(self.double, thing)
        self.double = put[0]
        return (str(len(double_row(self.double))), len(put[1]), 2)

    def without_one(self, taken):
        self.double = taken[1]
        return (str(taken[0]), len(taken[2]), 2)


class Room(Thing):
    def __init__(self):
        Thing.__init__(self, "room")
        self.room = no_room()

    def credit(self):
        return room_credit(self.room)

    def do(self, words):
        if words[0] == "put":
            put = room_put(self.room, number_of(words[1]))
            self.room = put[0]
            return (str(len(self.room[0])), len(put[1]), 3)
        taken = room_take(self.room)
        self.room = taken[1]
        return (str(taken[0]), len(taken[2]), 2)


class Groups(Thing):
    def __init__(self, n):
        Thing.__init__(self, "groups")
        self.groups = begin_groups(n)

    def credit(self):
        return groups_credit(self.groups)

    def do(self, words):
        one = number_of(words[1])
        other = number_of(words[2])
        if words[0] == "join":
            return self.joined(one, other)
        return self.compared(one, other)

    def joined(self, one, other):
        told = join_groups(self.groups, one, other)
        self.groups = told[1]
        steps = len(told[2]) + len(told[3])
        if told[0]:
            steps += 1
        return (yes_or_no(told[0]), steps, join_price(len(self.groups[0])))

    def compared(self, one, other):
        first = find_top(self.groups, one)
        second = find_top(first[1], other)
        self.groups = second[1]
        steps = len(first[2]) + len(second[2])
        return (yes_or_no(first[0] == second[0]), steps, 2 * find_price(len(self.groups[0])))


class Tree(Thing):
    def __init__(self):
        Thing.__init__(self, "tree")
        self.tree = None

    def credit(self):
        return tree_credit(self.tree)

    def do(self, words):
        number = number_of(words[1])
        if words[0] == "put":
            return self.put(number)
        if words[0] == "take":
            return self.take(number)
        price = ask_price(many_of(self.tree))
        if words[0] == "ask":
            told = ask_tree(self.tree, number)
            answer = yes_or_no(told[0])
        else:
            told = key_at(self.tree, number) if words[0] == "at" else count_below(self.tree, number)
            answer = str(told[0])
        self.tree = told[1]
        return (answer, len(told[2]), price)

    def put(self, number):
        price = put_price(many_of(self.tree))
        told = put_key(self.tree, number)
        self.tree = told[1]
        return ("new" if told[0] else "old", len(told[2]), price)

    def take(self, number):
        price = take_price(many_of(self.tree))
        told = take_key(self.tree, number)
        self.tree = told[1]
        return (yes_or_no(told[0]), len(told[2]) + len(told[3]), price)

    # Told is also the tree of the keys that are cut off.
    def cut_off(self, number):
        price = ask_price(many_of(self.tree))
        told = cut_tree(self.tree, number)
        other = Tree()
        other.tree = told[1]
        self.tree = told[0]
        return (other, (str(many_of(self.tree)), len(told[2]), price))

    def tie_on(self, other):
        price = tie_price(many_of(self.tree), many_of(other.tree))
        told = tie_trees(self.tree, other.tree)
        self.tree = told[0]
        return (str(many_of(self.tree)), len(told[1]), price)


class Pile(Thing):
    def __init__(self):
        Thing.__init__(self, "pile")
        self.pile = no_pile()

    def credit(self):
        return pile_credit(self.pile)

    def do(self, words):
        if words[0] == "lay":
            self.pile = pile_put(self.pile, words[1], number_of(words[2]))
            return (str(len(self.pile[1])), 0, 1)
        if words[0] == "less":
            told = make_less(self.pile, words[1], number_of(words[2]))
            self.pile = told[0]
            return ("ok", len(told[1]), 4)
        if words[0] == "least":
            name = least_name(self.pile)
            return (name_and_key(name, self.pile[1][name][0]), 0, 0)
        price = 2 * most_below(len(self.pile[1]))
        if words[0] == "draw":
            told = take_least(self.pile)
            self.pile = told[2]
            return (name_and_key(told[0], told[1]), len(told[3]), price)
        told = put_out(self.pile, words[1])
        self.pile = told[1]
        return (str(told[0]), len(told[2]), price + 4)

    def pour_in(self, other):
        self.pile = pour_piles(self.pile, other.pile)
        return (str(len(self.pile[1])), 0, 0)


def name_and_key(name, key):
    return f"{name} {key}"
