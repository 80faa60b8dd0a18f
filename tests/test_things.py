"""Point [29] so far as it speaks of things: the interface, creditworks/things.py."""

import unittest

from creditworks.errors import CreditError, Empty, Lacking, NoName, NoPlace, NoRow, NoThing, NotLess, Twice
from creditworks.things import Bits, Double, Figures, Groups, Pile, Queue, Room, Thing, Tree

GREAT = "9" * 60

# Rows of words, what is told of each, and the credit behind it.
BITS = (("up", ("1", 1, 2), 1), ("up", ("2", 2, 2), 1), ("up", ("3", 1, 2), 2), ("up", ("4", 3, 2), 1))
FIGURES = (("down", ("-1", 1, 2), 1), ("up", ("0", 1, 2), 0), ("up", ("1", 1, 2), 1), ("up", ("2", 2, 2), 1),
           ("down", ("1", 1, 2), 2), ("down", ("0", 2, 2), 0))
QUEUE = (("put 5", ("1", 1, 2), 1), ("put -7", ("2", 1, 2), 2), ("take", ("5", 3, 1), 0), ("put 0", ("2", 1, 2), 1),
         ("take", ("-7", 1, 1), 1), ("take", ("0", 2, 1), 0))
DOUBLE = (("first 1", ("1", 1, 2), 1), ("first 2", ("2", 1, 2), 2), ("last 3", ("3", 1, 2), 1), ("pop", ("3", 1, 2), 2),
          ("pop", ("1", 3, 2), 1), ("shift", ("2", 1, 2), 0), ("last 4", ("1", 1, 2), 1), ("shift", ("4", 2, 2), 0))
ROOM = (("put 1", ("1", 1, 3), 0), ("put 2", ("2", 1, 3), 0), ("put 3", ("3", 1, 3), 2), ("put 4", ("4", 1, 3), 4),
        ("put 5", ("5", 5, 3), 2), ("take", ("5", 1, 2), 0), ("take", ("4", 1, 2), 1), ("take", ("3", 3, 2), 0))
GROUPS = (("join 0 1", ("yes", 3, 11), 2), ("join 2 3", ("yes", 3, 11), 4), ("join 1 3", ("yes", 5, 11), 5),
          ("same 3 1", ("yes", 5, 8), 5), ("same 4 3", ("no", 3, 8), 5), ("join 3 3", ("no", 4, 11), 5))
TREE = (("ask 5", ("no", 0, 0), 0), ("below 5", ("0", 0, 0), 0), ("take 5", ("no", 0, 0), 0),
        ("put 5", ("new", 0, 1), 1), ("put 3", ("new", 0, 3), 3), ("put 9", ("new", 1, 6), 5),
        ("put 5", ("old", 1, 7), 4), ("ask 4", ("no", 1, 4), 5), ("at 0", ("3", 0, 4), 5), ("below 9", ("2", 1, 4), 5),
        ("ask 9", ("yes", 0, 4), 5), ("take 5", ("yes", 1, 10), 3), ("take 5", ("no", 1, 10), 3))
PILE = (("lay b 4", ("1", 0, 1), 1), ("lay a 4", ("2", 0, 1), 2), ("lay c 1", ("3", 0, 1), 3),
        ("least", ("c 1", 0, 0), 3), ("draw", ("c 1", 1, 4), 1), ("less b 0", ("ok", 1, 4), 2),
        ("less b -1", ("ok", 0, 4), 2), ("out a", ("4", 0, 6), 1), ("draw", ("b -1", 0, 0), 0))

# Ways of unlike length, a taking with turnings on both trails, names that hang: no step is counted for another.
UNLIKE_WAYS = (("join 0 1", ("yes", 3, 11), 2), ("join 2 3", ("yes", 3, 11), 4), ("join 1 3", ("yes", 5, 11), 5),
               ("join 4 3", ("yes", 5, 11), 5), ("same 2 4", ("yes", 4, 8), 5))
TWO_TRAILS = (("put 1", ("new", 0, 1), 1), ("put 3", ("new", 0, 3), 3), ("put 4", ("new", 0, 6), 5),
              ("put 5", ("new", 0, 7), 8), ("put 2", ("new", 2, 10), 9), ("take 4", ("yes", 3, 15), 7))
HANGING = (("lay c 1", ("1", 0, 1), 1), ("lay a 4", ("2", 0, 1), 2), ("lay b 4", ("3", 0, 1), 3),
           ("draw", ("c 1", 1, 4), 1), ("lay d 9", ("3", 0, 1), 2), ("draw", ("a 4", 2, 4), 1),
           ("lay e 5", ("3", 0, 1), 2), ("out d", ("9", 2, 8), 1))

MADE = ((Bits, BITS), (Figures, FIGURES), (Queue, QUEUE), (Double, DOUBLE), (Room, ROOM), (lambda: Groups(5), GROUPS),
        (Tree, TREE), (Pile, PILE), (lambda: Groups(5), UNLIKE_WAYS), (Tree, TWO_TRAILS), (Pile, HANGING))


class ThingCase(unittest.TestCase):
    def run_rows(self, thing, rows):
        for row, wanted, credit in rows:
            words = row.split(" ")
            told = thing.do(words)
            self.assertEqual(told, wanted, row)
            self.assertEqual([type(part) for part in told], [str, int, int])
            self.assertEqual(words, row.split(" "))
            self.assertEqual(thing.credit(), credit, row)
            self.assertIs(type(thing.credit()), int)

    def refuse(self, thing, kind, *words):
        credit = thing.credit()
        with self.assertRaises(CreditError, msg=words) as told:
            thing.do(list(words))
        self.assertIs(type(told.exception), kind, words)
        self.assertEqual(thing.credit(), credit)


class Deeds(ThingCase):
    def test_each_sort_stands_under_thing(self):
        for make, rows in MADE:
            self.assertIsInstance(make(), Thing)
            self.assertEqual(make().credit(), 0)

    def test_rows_of_each_sort(self):
        for make, rows in MADE:
            self.run_rows(make(), rows)

    def test_two_of_a_sort_are_apart(self):
        for make, rows in MADE:
            one, other = make(), make()
            self.run_rows(one, rows)
            self.assertEqual(other.credit(), 0)
            self.run_rows(other, rows)

    def test_great_numbers(self):
        for number in (GREAT, "-" + GREAT):
            for make, put, take in ((Queue, "put", "take"), (Room, "put", "take"), (Double, "first", "pop"),
                                    (Double, "last", "shift")):
                thing = make()
                self.assertEqual(thing.do([put, number])[0], "1")
                self.assertEqual(thing.do([take])[0], number)
            tree = Tree()
            self.assertEqual(tree.do(["put", number])[0], "new")
            self.assertEqual(tree.do(["at", "0"])[0], number)
            pile = Pile()
            pile.do(["lay", "a", number])
            self.assertEqual(pile.do(["least"])[0], "a " + number)
            self.assertEqual(pile.do(["out", "a"])[0], number)

    def test_groups_of_one_and_of_three_hundred(self):
        self.run_rows(Groups(1), (("join 0 0", ("no", 2, 5), 0), ("same 0 0", ("yes", 2, 4), 0)))
        self.run_rows(Groups(300), (("join 299 0", ("yes", 3, 14), 3), ("same 0 299", ("yes", 3, 10), 3)))


class Refusing(ThingCase):
    def test_empty_ones(self):
        self.refuse(Queue(), Empty, "take")
        self.refuse(Room(), Empty, "take")
        self.refuse(Double(), Empty, "shift")
        self.refuse(Double(), Empty, "pop")
        self.refuse(Pile(), Empty, "least")
        self.refuse(Pile(), Empty, "draw")

    def test_groups(self):
        thing = Groups(5)
        for deed in ("join", "same"):
            for words in (("5", "0"), ("0", "5"), ("-1", "0"), ("0", "-1"), (GREAT, "0")):
                self.refuse(thing, NoThing, deed, *words)
        self.run_rows(thing, GROUPS)

    def test_trees(self):
        thing = Tree()
        self.refuse(thing, NoPlace, "at", "0")
        thing.do(["put", "7"])
        for word in ("1", "-1", GREAT):
            self.refuse(thing, NoPlace, "at", word)
        self.assertEqual(thing.do(["at", "0"]), ("7", 0, 1))

    def test_piles(self):
        thing = Pile()
        for word in ("", "A", "abcdefghi", "a1", "1"):
            self.refuse(thing, NoName, "lay", word, "1")
        self.refuse(thing, Lacking, "less", "a", "1")
        self.refuse(thing, Lacking, "out", "a")
        thing.do(["lay", "a", "5"])
        self.refuse(thing, Twice, "lay", "a", "1")
        self.refuse(thing, NotLess, "less", "a", "5")
        self.refuse(thing, NotLess, "less", "a", "6")
        self.refuse(thing, Lacking, "less", "b", "1")
        self.refuse(thing, Lacking, "less", "A", "1")
        self.refuse(thing, Lacking, "out", "b")
        self.assertEqual(thing.do(["least"]), ("a 5", 0, 0))

    # Of such words the document promises nothing here; refused as the book refuses their row, they change nothing.
    def test_words_that_are_no_numbers(self):
        for word in ("", "x", "00", "007", "-0", "-00", "-01", "+1", "1.0", "1e3", "--1", "-", "0x1", "1_0", "9" * 61,
                     "-" + "9" * 61):
            for make, deed in ((Queue, "put"), (Room, "put"), (Double, "first"), (Double, "last"), (Tree, "put"),
                               (Tree, "take"), (Tree, "ask"), (Tree, "at"), (Tree, "below")):
                self.refuse(make(), NoRow, deed, word)
            for deed in ("join", "same"):
                self.refuse(Groups(5), NoRow, deed, word, "0")
                self.refuse(Groups(5), NoRow, deed, "0", word)
            pile = Pile()
            self.refuse(pile, NoRow, "lay", "a", word)
            pile.do(["lay", "a", "1"])
            self.refuse(pile, NoRow, "less", "a", word)


if __name__ == "__main__":
    unittest.main()
