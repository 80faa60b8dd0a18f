"""Point [6], and of [2] and [4] what speaks of ledgers."""

import copy
import itertools
import unittest

from creditworks.errors import CreditError, NoNumber, Overdrawn
from creditworks.ledgers import Ledger
from tests.samples import NO_COUNTS

GREAT = 10 ** 60 - 1


def all_told(ledger):
    return (ledger.entries(), ledger.paid(), ledger.due(), ledger.credit(), ledger.spare())


def ledger_of(*rows):
    ledger = Ledger()
    for row in rows:
        ledger.enter(*row)
    return ledger


class LedgerCase(unittest.TestCase):
    def refuse(self, ledger, kind, *handed, **named):
        before = all_told(ledger)
        with self.assertRaises(CreditError) as told:
            ledger.enter(*handed, **named)
        self.assertIs(type(told.exception), kind, (handed, named))
        self.assertEqual(all_told(ledger), before)
        return told.exception


class Entering(LedgerCase):
    def test_a_ledger_without_entries(self):
        ledger = Ledger()
        self.assertEqual(all_told(ledger), ([], 0, 0, 0, 0))
        self.assertIs(type(ledger.entries()), list)

    def test_some_entries(self):
        ledger = Ledger()
        self.assertIsNone(ledger.enter("save", 1, 5, 3))
        self.assertIsNone(ledger.enter("use", 3, 1, 0))
        self.assertIsNone(ledger.enter("rest", 0, 2, 2))
        self.assertEqual(ledger.entries(), [("save", 1, 5, 0, 3), ("use", 3, 1, 3, 0), ("rest", 0, 2, 0, 2)])
        self.assertEqual(all_told(ledger)[1:], (4, 8, 2, 2))
        for entry in ledger.entries():
            self.assertIs(type(entry), tuple)

    def test_price_left_out_is_nought(self):
        ledger = ledger_of(("a", 0))
        self.assertEqual(ledger.entries(), [("a", 0, 0, 0, 0)])
        ledger.enter("b", 0, 4, 4)
        ledger.enter("c", 3, credit=1)
        self.assertEqual(ledger.entries()[-1], ("c", 3, 0, 4, 1))
        self.assertEqual(self.refuse(ledger, Overdrawn, "d", 1, credit=1).by, 1)

    def test_credit_left_out_or_none_is_the_credit_ahead(self):
        for rest in ((), (None,)):
            ledger = ledger_of(("a", 2, 9, 5))
            ledger.enter("b", 3, 4, *rest)
            self.assertEqual(ledger.entries()[-1], ("b", 3, 4, 5, 5))
            self.assertEqual(all_told(ledger)[1:], (5, 13, 5, 3))
            self.assertEqual(self.refuse(ledger, Overdrawn, "c", 6, 4, *rest).by, 2)
        first = ledger_of(("a", 1, 3, None))
        self.assertEqual(first.entries(), [("a", 1, 3, 0, 0)])

    def test_a_told_credit_of_nought_is_told(self):
        ledger = ledger_of(("a", 0, 5, 5), ("b", 0, 0, 0))
        self.assertEqual(ledger.entries()[-1], ("b", 0, 0, 5, 0))
        self.assertEqual(all_told(ledger)[1:], (0, 5, 0, 5))

    def test_arguments_by_their_names(self):
        ledger = Ledger()
        ledger.enter(credit=2, price=3, steps=1, word="a")
        self.assertEqual(ledger.entries(), [("a", 1, 3, 0, 2)])

    def test_any_text_is_a_word_and_may_come_again(self):
        words = ["", "a", "a b", "None", "~" * 300, "a"]
        ledger = Ledger()
        for word in words:
            ledger.enter(word, 0)
        self.assertEqual([entry[0] for entry in ledger.entries()], words)

    def test_two_ledgers_are_apart(self):
        one, other = Ledger(), Ledger()
        one.enter("a", 1, 2, 1)
        self.assertEqual(all_told(other), ([], 0, 0, 0, 0))
        other.enter("b", 0, 7)
        self.assertEqual(all_told(one), ([("a", 1, 2, 0, 1)], 1, 2, 1, 0))

    def test_many_and_great_entries(self):
        ledger = Ledger()
        for place in range(300):
            ledger.enter("w", GREAT - place, GREAT, place)
        self.assertEqual(len(ledger.entries()), 300)
        self.assertEqual(ledger.paid(), 300 * GREAT - sum(range(300)))
        self.assertEqual(ledger.due(), 300 * GREAT)
        self.assertEqual(ledger.credit(), 299)
        self.assertEqual(ledger.spare(), sum(range(300)) - 299)


class Refusing(LedgerCase):
    def test_just_enough_and_one_more(self):
        for ahead, price, steps in ((0, 0, 0), (0, 1, 1), (5, 0, 2), (5, 3, 8), (5, 3, 0), (GREAT, GREAT, GREAT)):
            ledger = ledger_of(("ahead", 0, ahead, ahead))
            behind = ahead + price - steps
            self.assertEqual(self.refuse(ledger, Overdrawn, "w", steps + 1, price, behind).by, 1)
            self.assertEqual(self.refuse(ledger, Overdrawn, "w", steps, price, behind + 1).by, 1)
            ledger.enter("w", steps, price, behind)
            self.assertEqual(ledger.entries()[-1], ("w", steps, price, ahead, behind))
            self.assertEqual(ledger.spare(), 0)

    def test_by_how_much_more(self):
        self.assertEqual(self.refuse(Ledger(), Overdrawn, "w", 1).by, 1)
        self.assertEqual(self.refuse(Ledger(), Overdrawn, "w", 0, 0, 4).by, 4)
        self.assertEqual(self.refuse(Ledger(), Overdrawn, "w", GREAT, 0, GREAT).by, 2 * GREAT)
        ledger = ledger_of(("a", 1, 8, 5))
        self.assertEqual(self.refuse(ledger, Overdrawn, "w", 10, 2, 3).by, 6)

    def test_what_is_spare_is_no_credit(self):
        ledger = ledger_of(("a", 0, 10, 1))
        self.assertEqual(ledger.spare(), 9)
        self.assertEqual(self.refuse(ledger, Overdrawn, "w", 2, 0, 0).by, 1)

    def test_no_numbers(self):
        for start in ((), (("a", 0, 9, 9),)):
            for wrong in NO_COUNTS + (None,):
                self.refuse(ledger_of(*start), NoNumber, "w", wrong)
                self.refuse(ledger_of(*start), NoNumber, "w", wrong, 5, 0)
                self.refuse(ledger_of(*start), NoNumber, "w", 0, wrong)
                self.refuse(ledger_of(*start), NoNumber, "w", 0, wrong, 0)
                self.refuse(ledger_of(*start), NoNumber, "w", 0, wrong, None)
            for wrong in NO_COUNTS:
                self.refuse(ledger_of(*start), NoNumber, "w", 0, 5, wrong)
                self.refuse(ledger_of(*start), NoNumber, "w", 0, credit=wrong)

    def test_several_no_numbers(self):
        for wrong in NO_COUNTS:
            self.refuse(Ledger(), NoNumber, "w", wrong, wrong, wrong)
            self.refuse(Ledger(), NoNumber, "w", wrong, wrong)

    def test_no_number_ahead_of_overdrawn(self):
        for wrong in (True, False, -1, -9, "1", [1], (1,), {}, 1.0):
            self.refuse(Ledger(), NoNumber, "w", 7, wrong, 0)
            self.refuse(Ledger(), NoNumber, "w", 7, wrong, 7)
            self.refuse(Ledger(), NoNumber, "w", 7, 0, wrong)
            self.refuse(Ledger(), NoNumber, "w", wrong, 0, 7)
        self.refuse(Ledger(), NoNumber, "w", 7, None, 7)
        self.refuse(Ledger(), NoNumber, "w", None, 0, 7)

    def test_a_ledger_goes_on_behind_a_refusal(self):
        ledger = ledger_of(("a", 1, 3, 2))
        self.refuse(ledger, Overdrawn, "no", 9)
        self.refuse(ledger, NoNumber, "no", -1)
        ledger.enter("b", 2, 0, 0)
        self.assertEqual(ledger.entries(), [("a", 1, 3, 0, 2), ("b", 2, 0, 2, 0)])

    def test_what_is_handed_in_stays(self):
        for wrong in ([], [1], [[1], [2]], {}, {"a": [1]}):
            for place in range(3):
                handed = copy.deepcopy(wrong)
                numbers = [0, 0, 0]
                numbers[place] = handed
                self.refuse(Ledger(), NoNumber, "w", *numbers)
                self.assertEqual(handed, wrong)


class Telling(LedgerCase):
    def test_told_lists_belong_to_the_asker(self):
        ledger = ledger_of(("a", 1, 3, 1), ("b", 0, 2, 3))
        wanted = copy.deepcopy(all_told(ledger))
        told = ledger.entries()
        self.assertIsNot(told, ledger.entries())
        told.append(("c", 9, 9, 9, 9))
        self.assertEqual(all_told(ledger), wanted)
        told.clear()
        self.assertEqual(all_told(ledger), wanted)
        none = Ledger()
        none.entries().append(("c", 9, 9, 9, 9))
        self.assertEqual(all_told(none), ([], 0, 0, 0, 0))

    def test_a_told_list_stays_as_it_was(self):
        ledger = ledger_of(("a", 1, 3, 1))
        told = ledger.entries()
        ledger.enter("b", 0)
        self.assertEqual(told, [("a", 1, 3, 0, 1)])

    def test_asking_changes_nothing(self):
        ledger = ledger_of(("a", 1, 3, 1))
        self.assertEqual(all_told(ledger), all_told(ledger))


class AgainstThePlainRule(LedgerCase):
    # Every row of three tries out of a small grid, held against the rule reckoned anew.
    def test_all_small_rows(self):
        tries = list(itertools.product((0, 1, 3), (0, 2), (None, 0, 2)))
        for row in itertools.product(tries, repeat=3):
            ledger = Ledger()
            wanted = []
            ahead = 0
            for steps, price, credit in row:
                behind = ahead if credit is None else credit
                more = steps + behind - (ahead + price)
                if more > 0:
                    self.assertEqual(self.refuse(ledger, Overdrawn, "w", steps, price, credit).by, more)
                    continue
                self.assertIsNone(ledger.enter("w", steps, price, credit))
                wanted.append(("w", steps, price, ahead, behind))
                ahead = behind
            self.hold(ledger, wanted)

    def hold(self, ledger, wanted):
        paid = sum(entry[1] for entry in wanted)
        due = sum(entry[2] for entry in wanted)
        credit = wanted[-1][4] if wanted else 0
        self.assertEqual(all_told(ledger), (wanted, paid, due, credit, due - paid - credit))
        self.assertGreaterEqual(ledger.credit(), 0)
        self.assertGreaterEqual(ledger.spare(), 0)
        self.assertLessEqual(ledger.paid(), ledger.due())


if __name__ == "__main__":
    unittest.main()
