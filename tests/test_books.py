"""Points [29] and [30], and [2], [3] and [4] over the whole program: the interface, creditworks/books.py."""

import random
import unittest

from creditworks.books import Book
from creditworks.errors import (CreditError, Empty, Lacking, Mixed, NoName, NoNumber, NoPlace, NoRow, NoThing, NotLess,
                                Twice)
from creditworks.ledgers import Ledger
from tests.piling import name_of
from tests.plainbook import PlainBook
from tests.test_things import (BITS, DOUBLE, FIGURES, GROUPS, HANGING, PILE, QUEUE, ROOM, TREE, TWO_TRAILS,
                               UNLIKE_WAYS)

GREAT = "9" * 60
SORTS = (("bits", "", BITS), ("figures", "", FIGURES), ("queue", "", QUEUE), ("double", "", DOUBLE), ("room", "", ROOM),
         ("groups", " 5", GROUPS), ("tree", "", TREE), ("pile", "", PILE))
MORE = (("groups", " 5", UNLIKE_WAYS), ("tree", "", TWO_TRAILS), ("pile", "", HANGING))
NO_TEXTS = (None, True, False, 0, 1, -1, 1.5, [], ["account"], (), ("account",), {}, {"account": 1}, b"account",
            {"account"}, object(), str, len)
NO_NAMES = ("", "A", "aB", "abcdefghi", "a1", "1", "-", "a_b", "~", "{", "`")
NO_NUMBERS = ("", "x", "a", "00", "01", "007", "-0", "-00", "-01", "+1", "1.0", "1e3", "--1", "-", "0x1", "1_0",
              "9" * 61, "-" + "9" * 61, "none")

# One of each sort, by a name of its own; the tree and the pile have something in them.
STANDING = ("bits b", "figures f", "queue q", "double d", "room r", "groups g 5", "tree t", "pile p", "put t 5",
            "lay p x 3")
# Every row that has a thing ahead of it, and the names of STANDING that it is for.
ROWS = (("up {}", "bf"), ("down {}", "f"), ("put {} 1", "qrt"), ("take {}", "qr"), ("first {} 1", "d"),
        ("last {} 1", "d"), ("shift {}", "d"), ("pop {}", "d"), ("join {} 0 1", "g"), ("same {} 0 1", "g"),
        ("take {} 1", "t"), ("ask {} 1", "t"), ("at {} 0", "t"), ("below {} 1", "t"), ("cut {} 1 new", "t"),
        ("tie {} t", "t"), ("tie t {}", "t"), ("lay {} y 1", "p"), ("least {}", "p"), ("draw {}", "p"),
        ("less {} x 1", "p"), ("out {} x", "p"), ("pour {} p", "p"), ("pour p {}", "p"))
BEGINNINGS = ("bits {}", "figures {}", "queue {}", "double {}", "room {}", "tree {}", "pile {}", "groups {} 5")


def book_of(*rows):
    book = Book()
    for row in rows:
        book.say(row)
    return book


class BookCase(unittest.TestCase):
    def state(self, book):
        return (book.credit(), book.ledger())

    def refuse(self, book, kind, row):
        before = self.state(book)
        with self.assertRaises(CreditError, msg=row) as told:
            book.say(row)
        self.assertIs(type(told.exception), kind, row)
        self.assertEqual(self.state(book), before)

    def hold(self, book, row, wanted):
        told = book.say(row)
        self.assertIs(type(told), str)
        self.assertEqual(told, wanted, row)


class Rows(BookCase):
    def test_an_empty_book(self):
        book = Book()
        self.assertEqual(self.state(book), (0, []))
        self.assertIs(type(book.ledger()), list)

    def test_each_row_of_each_sort(self):
        for sort, rest, rows in SORTS + MORE:
            book = Book()
            self.hold(book, f"{sort} n{rest}", "ok; 0 0 0")
            for row, (answer, steps, price), credit in rows:
                words = row.split(" ")
                self.hold(book, " ".join([words[0], "n"] + words[1:]), f"{answer}; {steps} {price} {credit}")
                self.assertEqual(book.credit(), credit)

    def test_all_sorts_in_one_book_with_their_credits_together(self):
        book = Book()
        total = {}
        for sort, rest, rows in SORTS:
            self.hold(book, f"{sort} {sort[:4]}{rest}", f"ok; 0 0 {sum(total.values())}")
            total[sort] = 0
            for row, (answer, steps, price), credit in rows:
                words = row.split(" ")
                total[sort] = credit
                self.hold(book, " ".join([words[0], sort[:4]] + words[1:]),
                          f"{answer}; {steps} {price} {sum(total.values())}")

    def test_a_tree_cut_and_tied_again(self):
        book = book_of("tree t", "put t 5", "put t 3", "put t 9", "put t 5")
        self.hold(book, "cut t 5 u", "1; 0 4 4")
        self.hold(book, "at t 0", "3; 0 1 4")
        self.hold(book, "at u 1", "9; 1 4 4")
        self.hold(book, "at u 0", "5; 1 4 4")
        self.refuse(book, Twice, "bits u")
        self.refuse(book, Mixed, "tie u t")
        self.hold(book, "tie t u", "3; 0 2 5")
        self.refuse(book, Lacking, "ask u 5")
        self.hold(book, "bits u", "ok; 0 0 5")
        self.hold(book, "at t 2", "9; 1 4 5")

    def test_trees_cut_at_the_ends_and_tied_to_none(self):
        book = book_of("tree t", "put t 5", "put t 3")
        self.hold(book, "cut t 9 high", "2; 1 4 3")
        self.hold(book, "cut t 0 low", "0; 1 4 3")
        self.hold(book, "cut t 0 none", "0; 0 0 3")
        self.hold(book, "tie low high", "2; 0 0 3")
        self.hold(book, "tie t low", "2; 0 0 3")
        self.hold(book, "tie none t", "2; 0 0 3")
        self.hold(book, "at none 1", "5; 1 4 3")
        for name in ("t", "low", "high"):
            self.refuse(book, Lacking, f"ask {name} 1")

    def test_turnings_of_the_first_tree_are_steps_of_the_tying(self):
        book = book_of("tree t", "put t 2", "put t 1", "tree u", "put u 5")
        self.hold(book, "tie t u", "3; 1 4 4")

    def test_piles_poured(self):
        book = book_of("pile p", "lay p a 4", "lay p b 4", "lay p c 1", "draw p", "pile s", "lay s z 7")
        self.assertEqual(book.credit(), 2)
        self.hold(book, "pour s p", "3; 0 0 2")
        self.refuse(book, Lacking, "least p")
        self.hold(book, "least s", "a 4; 0 0 2")
        self.hold(book, "tree p", "ok; 0 0 2")
        self.hold(book, "out s b", "4; 2 8 1")
        self.hold(book, "draw s", "a 4; 1 2 1")
        self.hold(book, "draw s", "z 7; 0 0 0")
        self.refuse(book, Empty, "draw s")

    def test_names_with_many_below(self):
        book = book_of("pile p", *[f"lay p {name_of(number)} {number}" for number in range(17)])
        self.hold(book, "draw p", "a 0; 15 10 1")
        self.hold(book, "draw p", "b 1; 4 10 4")

    def test_great_numbers(self):
        book = book_of("queue q", "tree t", "pile p", f"put q -{GREAT}", f"put t {GREAT}", f"lay p a {GREAT}")
        self.assertEqual(book.say("take q").split("; ")[0], "-" + GREAT)
        self.assertEqual(book.say("at t 0").split("; ")[0], GREAT)
        self.assertEqual(book.say(f"ask t {GREAT}").split("; ")[0], "yes")
        self.assertEqual(book.say(f"below t -{GREAT}").split("; ")[0], "0")
        self.assertEqual(book.say(f"less p a -{GREAT}").split("; ")[0], "ok")
        self.assertEqual(book.say("draw p").split("; ")[0], "a -" + GREAT)

    def test_groups_of_one_and_of_three_hundred(self):
        book = Book()
        self.hold(book, "groups one 1", "ok; 0 0 0")
        self.hold(book, "join one 0 0", "no; 2 5 0")
        self.hold(book, "groups all 300", "ok; 0 0 0")
        self.hold(book, "join all 299 0", "yes; 3 14 3")
        self.hold(book, "same all 0 299", "yes; 3 10 3")
        self.refuse(book, NoThing, "same all 0 300")

    def test_names_of_one_to_eight_letters(self):
        book = Book()
        for name in ("a", "z", "abcdefgh", "zzzzzzzz", "bits", "account"):
            self.hold(book, f"bits {name}", "ok; 0 0 0")


class Accounts(BookCase):
    def test_ahead_of_all(self):
        book = Book()
        self.hold(book, "account", "0 0 0 0; 0 0 0")
        self.assertEqual(book.ledger(), [("account", 0, 0, 0, 0)])
        self.hold(book, "account", "0 0 0 0; 0 0 0")

    def test_behind_other_rows(self):
        book = book_of("bits b", "up b", "room r", "put r 1")
        self.hold(book, "account", "2 5 1 2; 0 0 1")
        self.hold(book, "up b", "2; 2 2 1")
        self.hold(book, "account", "4 7 1 2; 0 0 1")

    def test_each_answer_is_entered(self):
        book = book_of("queue q", "put q 5", "put q 6", "take q", "account")
        self.refuse(book, NoRow, "nothing")
        self.refuse(book, Lacking, "take x")
        book.say("take q")
        self.refuse(book, Empty, "take q")
        self.assertEqual(book.ledger(), [("queue", 0, 0, 0, 0), ("put", 1, 2, 0, 1), ("put", 1, 2, 1, 2),
                                         ("take", 3, 1, 2, 0), ("account", 0, 0, 0, 0), ("take", 1, 1, 0, 0)])

    def test_the_told_ledger_belongs_to_the_asker(self):
        book = book_of("bits b", "up b")
        wanted = list(book.ledger())
        book.ledger().clear()
        self.assertEqual(book.ledger(), wanted)
        told = book.ledger()
        book.say("up b")
        self.assertEqual(told, wanted)

    def test_two_books_are_apart(self):
        one, other = book_of("bits b", "up b"), Book()
        self.assertEqual(self.state(other), (0, []))
        self.refuse(other, Lacking, "up b")
        self.hold(other, "queue b", "ok; 0 0 0")
        self.hold(one, "up b", "2; 2 2 1")


class NoRows(BookCase):
    def test_what_is_no_text(self):
        for book in (Book(), book_of(*STANDING)):
            for wrong in NO_TEXTS:
                self.refuse(book, NoRow, wrong)

    def test_unknown_first_words(self):
        for row in ("", "x", "x b", "UP b", "Up b", "ups b", "u b", "sets b", "find g 0", "link g 0 1", "1 b", "b up"):
            self.refuse(book_of(*STANDING), NoRow, row)

    def test_wrong_numbers_of_words(self):
        known = {}
        for row in [form.format("b") for form, names in ROWS] + [form.format("b") for form in BEGINNINGS] + ["account"]:
            words = row.split(" ")
            known.setdefault(words[0], set()).add(len(words))
        for first, manys in known.items():
            for many in range(1, 8):
                if many not in manys:
                    self.refuse(book_of(*STANDING), NoRow, " ".join([first] + ["b"] * (many - 1)))
                    self.refuse(book_of(*STANDING), NoRow, " ".join([first] + ["X"] * (many - 1)))

    def test_blanks_side_by_side_and_at_an_end(self):
        for row in ("up  b", " up b", "up b ", "up b  ", "  up b", " ", "  ", "put q  1", "put  q 1", "put q 1 ",
                    " put q 1", " account", "account ", "join g  0 1", "take q 1 ", "bits  x", "bits x "):
            self.refuse(book_of(*STANDING), NoRow, row)

    def test_a_word_without_signs_is_no_name_and_no_number(self):
        book = book_of(*STANDING)
        for row in ("up ", "bits ", "take ", "put  1", "cut t 1 ", "tie t ", "tie  t", "lay  x 1", "groups  1"):
            self.refuse(book, NoName, row)
        for row in ("put q ", "take t ", "join g 0 ", "join g  1", "cut t  new", "groups new ", "lay p y "):
            self.refuse(book, NoRow, row)
        self.refuse(book, NoName, "lay p  1")
        self.refuse(book, Lacking, "out p ")


class WrongWords(BookCase):
    def test_no_names(self):
        for wrong in NO_NAMES:
            book = book_of(*STANDING)
            for form, names in ROWS:
                self.refuse(book, NoName, form.format(wrong))
            for form in BEGINNINGS:
                self.refuse(book, NoName, form.format(wrong))
            self.refuse(book, NoName, f"cut t 1 {wrong}")

    def test_nothing_stands_there_or_another_sort(self):
        book = book_of(*STANDING)
        for form, names in ROWS:
            self.refuse(book, Lacking, form.format("lacking"))
            for name in "bfqdrgtp":
                if name not in names:
                    self.refuse(book, Lacking, form.format(name))

    def test_something_stands_there(self):
        book = book_of(*STANDING)
        for name in "bfqdrgtp":
            for form in BEGINNINGS:
                self.refuse(book, Twice, form.format(name))
            self.refuse(book, Twice, f"cut t 1 {name}")

    # K and L are whole numbers in every row that is listed, so another word there makes no such row.
    def test_no_numbers(self):
        for wrong in NO_NUMBERS:
            book = book_of(*STANDING)
            for form in ("put q {}", "put r {}", "put t {}", "first d {}", "last d {}", "join g {} 0", "join g 0 {}",
                         "same g {} 0", "same g 0 {}", "take t {}", "ask t {}", "at t {}", "below t {}",
                         "cut t {} new", "lay p y {}", "less p x {}", "groups new {}"):
                self.refuse(book, NoRow, form.format(wrong))
            self.hold(book, "bits new", "ok; 0 0 2")

    def test_how_many_things_groups_have(self):
        book = Book()
        for wrong in ("0", "-1", "-300", "301", "302", GREAT, "-" + GREAT):
            self.refuse(book, NoNumber, f"groups g {wrong}")
        self.refuse(book, NoName, "groups G 0")
        self.hold(book, "groups g 300", "ok; 0 0 0")
        self.refuse(book, Twice, "groups g 0")

    def test_what_the_things_refuse(self):
        book = book_of(*STANDING)
        for row, kind in (("take q", Empty), ("take r", Empty), ("shift d", Empty), ("pop d", Empty),
                          ("join g 0 5", NoThing), ("join g 5 0", NoThing), ("same g -1 0", NoThing),
                          ("same g 0 -1", NoThing), ("at t 1", NoPlace), ("at t -1", NoPlace), ("lay p A 1", NoName),
                          ("lay p x 1", Twice), ("less p y 1", Lacking), ("less p x 3", NotLess),
                          ("less p x 4", NotLess), ("out p y", Lacking), ("out p Y", Lacking)):
            self.refuse(book, kind, row)
        book = book_of("tree t", "pile p")
        for row, kind in (("at t 0", NoPlace), ("least p", Empty), ("draw p", Empty)):
            self.refuse(book, kind, row)

    def test_a_thing_and_itself(self):
        for rows in (("tree t", "pile p"), ("tree t", "pile p", "put t 5", "lay p a 1")):
            book = book_of(*rows)
            self.refuse(book, Mixed, "tie t t")
            self.refuse(book, Twice, "pour p p")
            self.assertTrue(book.say("below t 9").startswith("1" if len(rows) > 2 else "0"))
        self.refuse(book, Twice, "cut t 5 t")

    def test_trees_that_do_not_lie_apart_and_piles_with_a_name_in_both(self):
        book = book_of("tree t", "put t 5", "tree u", "put u 5", "pile p", "lay p a 1", "pile s", "lay s a 2")
        self.refuse(book, Mixed, "tie t u")
        self.refuse(book, Twice, "pour p s")
        self.hold(book, "ask u 5", "yes; 0 1 4")
        self.hold(book, "least s", "a 2; 0 0 4")


class TheFirstNamed(BookCase):
    def test_no_row_ahead_of_all(self):
        book = book_of(*STANDING)
        for row in ("up B c", "put Q", "cut T x", "bits B c", "tie T T T", "join lacking 0", "put Q x", "put lacking x",
                    "cut T x T", "cut lacking x t", "cut t x t", "groups G x", "groups g x", "groups g 01",
                    "lay P A x", "lay p x x", "less p y 01", "join t x y", "join g 9 x", "at b -0"):
            self.refuse(book, NoRow, row)

    def test_no_name_ahead_of_lacking_and_twice(self):
        book = book_of(*STANDING)
        for row in ("tie lacking T", "tie T lacking", "pour lacking P", "pour P lacking", "cut lacking 1 T",
                    "cut T 1 t", "cut T 1 lacking", "cut b 1 T", "cut T 1 T", "put Q 1", "groups G 0", "lay P A 1"):
            self.refuse(book, NoName, row)

    def test_lacking_ahead_of_twice(self):
        book = book_of(*STANDING)
        for row in ("cut lacking 1 t", "cut b 1 b", "cut lacking 1 lacking", "put lacking 1", "tie lacking lacking",
                    "pour lacking lacking", "tie b b", "pour b b", "tie t lacking", "join t 9 9", "lay lacking A 1",
                    "lay b x 1", "take t", "take q 1", "at b 9"):
            self.refuse(book, Lacking, row)

    def test_twice_ahead_of_what_the_thing_refuses(self):
        book = book_of(*STANDING)
        for row in ("cut t 1 t", "cut t 1 b", "groups g 0", "groups g -1", "groups b 301"):
            self.refuse(book, Twice, row)


class AgainstPlainThings(BookCase):
    LAST = 40

    def row_for(self, chance, sort, name):
        number = chance.choice((chance.randrange(-9, 10), chance.randrange(-self.LAST, self.LAST)))
        other = chance.choice((number + 1, chance.randrange(-1, 8)))
        inner = name_of(chance.randrange(30))
        return chance.choice({
            "bits": (f"up {name}",),
            "figures": (f"up {name}", f"down {name}"),
            "queue": (f"put {name} {number}", f"take {name}"),
            "room": (f"put {name} {number}", f"take {name}"),
            "double": (f"first {name} {number}", f"last {name} {number}", f"shift {name}", f"pop {name}"),
            "groups": (f"join {name} {abs(number)} {abs(other)}", f"same {name} {abs(number)} {other}"),
            "tree": (f"put {name} {number}",) * 3 + (
                f"take {name} {number}", f"ask {name} {number}", f"at {name} {number % 12}", f"below {name} {number}",
                f"cut {name} {number} {chance.choice('uvw')}", f"tie {name} {chance.choice('tuvw')}",
                f"tie {chance.choice('tuvw')} {name}"),
            "pile": (f"lay {name} {inner} {number}",) * 3 + (f"less {name} {inner} {number}",) * 3 + (
                f"least {name}", f"draw {name}", f"out {name} {inner}", f"pour {name} {chance.choice('ps')}"),
        }[sort])

    def run_rows(self, seed, many):
        chance = random.Random(seed)
        book, again, plain, ledger = Book(), Book(), PlainBook(), Ledger()
        begun = ["bits b", "figures f", "queue q", "double d", "room r", f"groups g {chance.choice((1, 3, 20, 41))}",
                 "tree t", "pile p", "pile s"]
        refused = 0
        for turn in range(many):
            if turn < len(begun):
                row = begun[turn]
            elif "s" not in plain.kept:
                row = "pile s"
            else:
                name = chance.choice(sorted(plain.kept))
                row = self.row_for(chance, plain.kept[name][0], name)
            refused += self.hold_row(book, again, plain, ledger, row)
        self.assertGreater(refused, 0)
        self.assertEqual(book.ledger(), ledger.entries())
        self.assertEqual(again.ledger(), ledger.entries())
        wanted = f"{ledger.paid()} {ledger.due()} {ledger.credit()} {ledger.spare()}; 0 0 {ledger.credit()}"
        self.hold(book, "account", wanted)

    def hold_row(self, book, again, plain, ledger, row):
        words = row.split(" ")
        wanted = plain.say(row)
        before = self.state(book)
        if wanted is None:
            for told in (book, again):
                with self.assertRaises(CreditError, msg=row):
                    told.say(row)
                self.assertEqual(self.state(told), before)
            return 1
        told = book.say(row)
        self.assertEqual(again.say(row), told)
        answer, numbers = told.split("; ")
        steps, price, credit = [int(word) for word in numbers.split(" ")]
        self.assertEqual((answer, price), wanted, row)
        self.assertEqual(credit, book.credit())
        ledger.enter(words[0], steps, price, credit)
        self.assertLessEqual(ledger.paid() + credit, ledger.due())
        return 0

    def test_long_rows_of_all_sorts(self):
        for seed in range(10):
            self.run_rows(seed, 600)

    def test_rising_keys_then_asked_at_the_deep_end(self):
        book = book_of("tree t", *[f"put t {number}" for number in range(400)])
        told = book.say("ask t 0")
        self.assertEqual(told.split(" ")[:3], ["yes;", "200", "25"])
        self.assertEqual(book.say("at t 399").split(";")[0], "399")

    def test_groups_joined_to_one(self):
        book = book_of("groups g 300")
        for thing in range(1, 300):
            self.assertTrue(book.say(f"join g {thing - 1} {thing}").startswith("yes; "))
        self.assertTrue(book.say("same g 0 299").startswith("yes; "))


if __name__ == "__main__":
    unittest.main()
