"""A book: things kept by names, run by rows of words, and a ledger of what each row took."""

from creditworks.errors import Lacking, Mixed, NoName, NoNumber, NoRow, Twice
from creditworks.ledgers import Ledger
from creditworks.piles import is_name
from creditworks.things import Bits, Double, Figures, Groups, Pile, Queue, Room, Tree, is_number, number_of

MOST_THINGS = 300

# Rows are known by their first word and how many words they have.
ACCOUNT = "account 1"
BEGINNINGS = ("bits 2", "figures 2", "queue 2", "double 2", "room 2", "groups 3", "tree 2", "pile 2")
DEEDS = {
    "up 2": ("bits", "figures"),
    "down 2": ("figures",),
    "put 3": ("queue", "room", "tree"),
    "take 2": ("queue", "room"),
    "first 3": ("double",),
    "last 3": ("double",),
    "shift 2": ("double",),
    "pop 2": ("double",),
    "join 4": ("groups",),
    "same 4": ("groups",),
    "take 3": ("tree",),
    "ask 3": ("tree",),
    "at 3": ("tree",),
    "below 3": ("tree",),
    "cut 4": ("tree",),
    "tie 3": ("tree",),
    "lay 4": ("pile",),
    "least 2": ("pile",),
    "draw 2": ("pile",),
    "less 4": ("pile",),
    "out 3": ("pile",),
    "pour 3": ("pile",),
}
NUMBER_PLACES = {
    "groups 3": (2,),
    "put 3": (2,),
    "first 3": (2,),
    "last 3": (2,),
    "join 4": (2, 3),
    "same 4": (2, 3),
    "take 3": (2,),
    "ask 3": (2,),
    "at 3": (2,),
    "below 3": (2,),
    "cut 4": (2,),
    "lay 4": (3,),
    "less 4": (3,),
}


def words_of(row):
    if not isinstance(row, str):
        raise NoRow("a row is a text")
    words = row.split(" ")
    form = form_of(words)
    if form != ACCOUNT and form not in BEGINNINGS and form not in DEEDS:
        raise NoRow("there is no row of this first word and so many words")
    for place in NUMBER_PLACES.get(form, ()):
        if not is_number(words[place]):
            raise NoRow("there is no such row without a whole number in this place")
    return words


def form_of(words):
    first = words[0]
    many = len(words)
    return f"{first} {many}"


def hold_name(word):
    if not is_name(word):
        raise NoName("a thing's name has one to eight small letters")


def new_thing(words):
    if words[0] == "bits":
        return Bits()
    if words[0] == "figures":
        return Figures()
    if words[0] == "queue":
        return Queue()
    if words[0] == "double":
        return Double()
    if words[0] == "room":
        return Room()
    if words[0] == "groups":
        return Groups(how_many_things(words[2]))
    if words[0] == "tree":
        return Tree()
    return Pile()


def how_many_things(word):
    many = number_of(word)
    if many < 1 or many > MOST_THINGS:
        raise NoNumber("groups are of 1 to 300 things")
    return many


class Book:
    def __init__(self):
        self.things = {}
        self.accounts = Ledger()

    def credit(self):
        return sum([thing.credit() for thing in self.things.values()])

    def ledger(self):
        return self.accounts.entries()

    def say(self, row):
        words = words_of(row)
        told = self.run(words)
        answer = told[0]
        steps = told[1]
        price = told[2]
        credit = self.credit()
        self.accounts.enter(words[0], steps, price, credit)
        return f"{answer}; {steps} {price} {credit}"

    def run(self, words):
        form = form_of(words)
        if form == ACCOUNT:
            return (self.account(), 0, 0)
        if form in BEGINNINGS:
            return self.begin(words)
        if form == "cut 4":
            return self.cut(words)
        if form == "tie 3":
            return self.tie(words)
        if form == "pour 3":
            return self.pour(words)
        hold_name(words[1])
        return self.thing_for(words, 1).do([words[0]] + words[2:])

    def thing_for(self, words, place):
        name = words[place]
        if name not in self.things or self.things[name].kind not in DEEDS[form_of(words)]:
            raise Lacking("nothing of the row's sort stands by this name")
        return self.things[name]

    def hold_free(self, name):
        if name in self.things:
            raise Twice("something stands by this name")

    def account(self):
        paid = self.accounts.paid()
        due = self.accounts.due()
        credit = self.accounts.credit()
        spare = self.accounts.spare()
        return f"{paid} {due} {credit} {spare}"

    def begin(self, words):
        hold_name(words[1])
        self.hold_free(words[1])
        self.things[words[1]] = new_thing(words)
        return ("ok", 0, 0)

    def cut(self, words):
        hold_name(words[1])
        hold_name(words[3])
        tree = self.thing_for(words, 1)
        self.hold_free(words[3])
        told = tree.cut_off(number_of(words[2]))
        self.things[words[3]] = told[0]
        return told[1]

    def tie(self, words):
        pair = self.two_things(words)
        if words[1] == words[2]:
            raise Mixed("a tree is not tied to itself")
        told = pair[0].tie_on(pair[1])
        self.things.pop(words[2])
        return told

    def pour(self, words):
        pair = self.two_things(words)
        if words[1] == words[2]:
            raise Twice("a pile is not poured into itself")
        told = pair[0].pour_in(pair[1])
        self.things.pop(words[2])
        return told

    def two_things(self, words):
        hold_name(words[1])
        hold_name(words[2])
        return (self.thing_for(words, 1), self.thing_for(words, 2))
