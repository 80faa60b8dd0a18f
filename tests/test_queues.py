"""Point [9], and of [2], [3] and [4] what speaks of queues."""

import copy
import itertools
import unittest

from creditworks.errors import CreditError, Empty
from creditworks.ledgers import Ledger
from creditworks.queues import queue_credit, queue_put, queue_row, queue_take
from tests.samples import THINGS, spoil


def some_queues():
    told = [(list(range(front)), list(range(50, 50 + back))) for front in range(5) for back in range(5)]
    return told + [(list(THINGS), []), ([], list(THINGS)), (list(range(150)), list(range(150))), ([], list(range(300)))]


def row_of(queue):
    return queue[0][::-1] + queue[1]


class QueueCase(unittest.TestCase):
    def hold_queue(self, queue):
        self.assertIs(type(queue), tuple)
        self.assertEqual([type(pile) for pile in queue], [list, list])

    def hold_apart(self, queue, handed):
        for pile in queue:
            for other in handed:
                self.assertIsNot(pile, other)
        self.assertIsNot(queue[0], queue[1])

    def hold_put(self, queue, thing):
        handed = copy.deepcopy(queue)
        told = queue_put(handed, thing)
        self.assertEqual(handed, queue)
        self.assertIs(type(told), tuple)
        put, steps = told
        self.hold_queue(put)
        self.hold_apart(put, handed)
        self.assertEqual(put, (queue[0], queue[1] + [thing]))
        self.assertIs(put[1][-1], thing)
        self.assertEqual(steps, ["laid"])
        self.assertEqual(queue_row(put), row_of(queue) + [thing])
        self.assertEqual(len(steps) + queue_credit(put), queue_credit(queue) + 2)
        return put

    def hold_taken(self, queue):
        handed = copy.deepcopy(queue)
        told = queue_take(handed)
        self.assertEqual(handed, queue)
        self.assertIs(type(told), tuple)
        thing, left, steps = told
        self.hold_queue(left)
        self.hold_apart(left, handed)
        turned = len(queue[1]) if queue[0] == [] else 0
        self.assertEqual(steps, ["turned"] * turned + ["taken"])
        if queue[0] == []:
            self.assertEqual((thing, left), (queue[1][0], (queue[1][:0:-1], [])))
        else:
            self.assertEqual((thing, left), (queue[0][-1], (queue[0][:-1], queue[1])))
        self.assertEqual([thing] + queue_row(left), row_of(queue))
        self.assertEqual(len(steps) + queue_credit(left), queue_credit(queue) + 1)
        return left

    def refuse(self, queue):
        handed = copy.deepcopy(queue)
        with self.assertRaises(CreditError) as told:
            queue_take(handed)
        self.assertIs(type(told.exception), Empty)
        self.assertEqual(handed, queue)


class Deeds(QueueCase):
    def test_some_queues_step_by_step(self):
        self.assertEqual(queue_put(([], []), 5), (([], [5]), ["laid"]))
        self.assertEqual(queue_put(([1], [2]), "a"), (([1], [2, "a"]), ["laid"]))
        self.assertEqual(queue_take(([1, 2], [3, 4])), (2, ([1], [3, 4]), ["taken"]))
        self.assertEqual(queue_take(([1], [3, 4])), (1, ([], [3, 4]), ["taken"]))
        self.assertEqual(queue_take(([], [3, 4, 5])), (3, ([5, 4], []), ["turned", "turned", "turned", "taken"]))
        self.assertEqual(queue_take(([], [3])), (3, ([], []), ["turned", "taken"]))
        self.assertEqual(queue_take(([3], [])), (3, ([], []), ["taken"]))

    def test_many_queues(self):
        for queue in some_queues():
            for thing in THINGS[:4]:
                self.hold_put(queue, thing)
            if queue != ([], []):
                self.hold_taken(queue)

    def test_taking_of_none_is_refused(self):
        self.refuse(([], []))
        empty = queue_take(queue_put(([], []), 1)[0])[1]
        self.refuse(empty)
        self.assertEqual(queue_row(queue_put(empty, 2)[0]), [2])

    def test_things_are_told_as_they_were_handed_in(self):
        queue = ([], [])
        for thing in THINGS:
            queue = self.hold_put(queue, thing)
        for thing in THINGS:
            told, queue, steps = queue_take(queue)
            self.assertIs(told, thing)

    def test_none_is_a_thing(self):
        self.assertEqual(queue_take(([None], []))[0], None)
        self.assertEqual(queue_row(([None], [None])), [None, None])


class Asking(QueueCase):
    def test_row_and_credit(self):
        self.assertEqual(queue_row(([1, 2], [3, 4])), [2, 1, 3, 4])
        self.assertEqual(queue_row(([], [])), [])
        self.assertEqual(queue_credit(([], [])), 0)
        for queue in some_queues():
            handed = copy.deepcopy(queue)
            self.assertEqual(queue_row(handed), row_of(queue))
            self.assertEqual(queue_credit(handed), len(queue[1]))
            self.assertIs(type(queue_credit(handed)), int)
            self.assertEqual(handed, queue)


class Keeping(QueueCase):
    def test_told_lists_belong_to_the_asker(self):
        for queue in (([1, 2], [3, 4]), ([], [3, 4, 5]), ([1, 2], []), ([6], [])):
            for deed in (lambda handed: queue_put(handed, 9), queue_take, lambda handed: (queue_row(handed),)):
                handed = copy.deepcopy(queue)
                wanted = copy.deepcopy(deed(handed))
                spoil(deed(handed))
                self.assertEqual(handed, queue)
                self.assertEqual(deed(handed), wanted)

    def test_what_is_done_to_the_handed_queue_changes_no_answer(self):
        for deed in (lambda handed: queue_put(handed, 9), queue_take, queue_row):
            for queue in (([1, 2], [3, 4]), ([], [3, 4, 5]), ([1, 2], [])):
                handed = copy.deepcopy(queue)
                told = deed(handed)
                wanted = copy.deepcopy(told)
                handed[0].append("spoilt")
                handed[1].clear()
                self.assertEqual(told, wanted)

    def test_elder_queues_keep_their_rows(self):
        elder = [([], [])]
        wanted = [[]]
        for turn in range(60):
            queue = elder[-1]
            row = wanted[-1]
            if turn % 3 == 2:
                elder.append(queue_take(queue)[1])
                wanted.append(row[1:])
            else:
                elder.append(queue_put(queue, turn)[0])
                wanted.append(row + [turn])
        self.assertEqual([queue_row(queue) for queue in elder], wanted)

    def test_two_ways_from_one_queue(self):
        start = ([], [1, 2, 3])
        one = queue_put(queue_take(start)[1], "one")[0]
        other = queue_put(queue_take(start)[1], "other")[0]
        self.assertEqual((queue_row(one), queue_row(other)), ([2, 3, "one"], [2, 3, "other"]))
        self.assertEqual(start, ([], [1, 2, 3]))


class AgainstAPlainRow(QueueCase):
    def run_deeds(self, deeds):
        queue = ([], [])
        plain = []
        ledger = Ledger()
        self.assertEqual(queue_credit(queue), 0)
        for place, deed in enumerate(deeds):
            if deed == "put":
                plain.append(place)
                queue, steps = queue_put(queue, place)
                ledger.enter(deed, len(steps), 2, queue_credit(queue))
            elif plain == []:
                self.refuse(queue)
            else:
                thing, queue, steps = queue_take(queue)
                self.assertEqual(thing, plain.pop(0))
                ledger.enter(deed, len(steps), 1, queue_credit(queue))
            self.assertEqual(queue_row(queue), plain)
            self.assertEqual(ledger.spare(), 0)
            self.assertGreaterEqual(queue_credit(queue), 0)

    def test_all_short_rows_of_deeds(self):
        for deeds in itertools.product(("put", "take"), repeat=9):
            self.run_deeds(deeds)

    def test_long_rows_of_deeds(self):
        self.run_deeds(["put"] * 300 + ["take"] * 305 + ["put", "take"] * 20)
        self.run_deeds((["put"] * 7 + ["take"] * 5) * 40 + ["take"] * 90)


if __name__ == "__main__":
    unittest.main()
