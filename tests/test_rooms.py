"""Point [11], and of [2], [3] and [4] what speaks of rooms."""

import copy
import itertools
import unittest

from creditworks.errors import CreditError, Empty
from creditworks.ledgers import Ledger
from creditworks.rooms import room_credit, room_put, room_take
from tests.samples import THINGS

SIZES = (4, 8, 16, 32, 64, 128, 256, 512)


# Every room in form whose things are the numbers from 0 on, up to three hundred of them.
def all_rooms():
    told = []
    for size in SIZES:
        least = 0 if size == 4 else size // 4 + 1
        told.extend((list(range(many)), size) for many in range(least, min(size, 300) + 1))
    return told


def plain_credit(many, size):
    if 2 * many > size:
        return 2 * many - size
    return size // 2 - many if size > 4 else 0


class RoomCase(unittest.TestCase):
    def hold_form(self, room):
        self.assertIs(type(room), tuple)
        things, size = room
        self.assertIs(type(things), list)
        self.assertIs(type(size), int)
        self.assertIn(size, SIZES + (1024,))
        self.assertLessEqual(len(things), size)
        self.assertTrue(size == 4 or 4 * len(things) > size, (len(things), size))

    def hold_put(self, room, thing):
        handed = copy.deepcopy(room)
        told = room_put(handed, thing)
        self.assertEqual(handed, room)
        self.assertIs(type(told), tuple)
        put, steps = told
        self.hold_form(put)
        self.assertIsNot(put[0], handed[0])
        full = len(room[0]) == room[1]
        self.assertEqual(put, (room[0] + [thing], 2 * room[1] if full else room[1]))
        self.assertEqual(steps, ["moved"] * (len(room[0]) if full else 0) + ["laid"])
        self.assertLessEqual(len(steps) + room_credit(put), room_credit(room) + 3)
        return put

    def hold_taken(self, room):
        handed = copy.deepcopy(room)
        told = room_take(handed)
        self.assertEqual(handed, room)
        self.assertIs(type(told), tuple)
        thing, left, steps = told
        self.hold_form(left)
        self.assertIsNot(left[0], handed[0])
        rest = len(room[0]) - 1
        halved = room[1] > 4 and 4 * rest <= room[1]
        self.assertEqual((thing, left), (room[0][-1], (room[0][:-1], room[1] // 2 if halved else room[1])))
        self.assertEqual(steps, ["taken"] + ["moved"] * (rest if halved else 0))
        self.assertLessEqual(len(steps) + room_credit(left), room_credit(room) + 2)
        return left

    def refuse(self, room):
        handed = copy.deepcopy(room)
        with self.assertRaises(CreditError) as told:
            room_take(handed)
        self.assertIs(type(told.exception), Empty)
        self.assertEqual(handed, room)


class Deeds(RoomCase):
    def test_puts(self):
        self.assertEqual(room_put(([], 4), "a"), ((["a"], 4), ["laid"]))
        self.assertEqual(room_put(([1, 2, 3], 4), 4), (([1, 2, 3, 4], 4), ["laid"]))
        self.assertEqual(room_put(([1, 2, 3, 4], 4), 5), (([1, 2, 3, 4, 5], 8), ["moved"] * 4 + ["laid"]))
        self.assertEqual(room_put(([0] * 8, 8), 1), (([0] * 8 + [1], 16), ["moved"] * 8 + ["laid"]))

    def test_takings(self):
        self.assertEqual(room_take((["a"], 4)), ("a", ([], 4), ["taken"]))
        self.assertEqual(room_take(([1, 2, 3, 4], 4)), (4, ([1, 2, 3], 4), ["taken"]))
        self.assertEqual(room_take(([1, 2], 4)), (2, ([1], 4), ["taken"]))
        self.assertEqual(room_take(([1, 2, 3, 4], 8)), (4, ([1, 2, 3], 8), ["taken"]))
        self.assertEqual(room_take(([1, 2, 3], 8)), (3, ([1, 2], 4), ["taken", "moved", "moved"]))
        self.assertEqual(room_take(([1, 2, 3, 4, 5], 16)), (5, ([1, 2, 3, 4], 8), ["taken"] + ["moved"] * 4))
        self.assertEqual(room_take(([0] * 8, 8)), (0, ([0] * 7, 8), ["taken"]))

    def test_all_rooms(self):
        for room in all_rooms():
            self.hold_form(room)
            self.hold_put(room, "new")
            if room[0] != []:
                self.hold_taken(room)

    def test_taking_of_none_is_refused(self):
        self.refuse(([], 4))
        self.refuse(room_take(([1], 4))[1])

    def test_things_are_told_as_they_were_handed_in(self):
        room = ([], 4)
        for thing in THINGS:
            room = self.hold_put(room, thing)
            self.assertIs(room[0][-1], thing)
        for thing in reversed(THINGS):
            told, room, steps = room_take(room)
            self.assertIs(told, thing)


class Asking(RoomCase):
    def test_credit(self):
        self.assertEqual([room_credit((list(range(many)), 4)) for many in range(5)], [0, 0, 0, 2, 4])
        self.assertEqual([room_credit((list(range(many)), 8)) for many in range(3, 9)], [1, 0, 2, 4, 6, 8])
        self.assertEqual([room_credit((list(range(many)), 16)) for many in (5, 7, 8, 9, 16)], [3, 1, 0, 2, 16])
        for room in all_rooms():
            handed = copy.deepcopy(room)
            self.assertEqual(room_credit(handed), plain_credit(len(room[0]), room[1]))
            self.assertIs(type(room_credit(handed)), int)
            self.assertGreaterEqual(room_credit(handed), 0)
            self.assertEqual(handed, room)


class Keeping(RoomCase):
    def rooms(self):
        return (([1, 2, 3, 4], 4), ([1, 2, 3], 4), ([1, 2, 3], 8), ([1, 2, 3, 4, 5], 8), ([1], 4))

    def test_told_lists_belong_to_the_asker(self):
        for room in self.rooms():
            for deed in (lambda handed: room_put(handed, 9), room_take):
                handed = copy.deepcopy(room)
                wanted = copy.deepcopy(deed(handed))
                told = deed(handed)
                told[-2][0].append("spoilt")
                told[-1].append("spoilt")
                self.assertEqual(handed, room)
                self.assertEqual(deed(handed), wanted)

    def test_what_is_done_to_the_handed_room_changes_no_answer(self):
        for room in self.rooms():
            for deed in (lambda handed: room_put(handed, 9), room_take):
                handed = copy.deepcopy(room)
                told = deed(handed)
                wanted = copy.deepcopy(told)
                handed[0].clear()
                self.assertEqual(told, wanted)

    def test_elder_rooms_keep_their_things(self):
        elder = [([], 4)]
        wanted = [[]]
        for turn in range(90):
            if turn % 5 == 4 or turn > 60:
                elder.append(room_take(elder[-1])[1])
                wanted.append(wanted[-1][:-1])
            else:
                elder.append(room_put(elder[-1], turn)[0])
                wanted.append(wanted[-1] + [turn])
        self.assertEqual([room[0] for room in elder], wanted)
        for room in elder:
            self.hold_form(room)


class AgainstAPlainRow(RoomCase):
    def run_deeds(self, deeds):
        room = ([], 4)
        plain = []
        ledger = Ledger()
        self.assertEqual(room_credit(room), 0)
        for place, deed in enumerate(deeds):
            if deed == "put":
                plain.append(place)
                room, steps = room_put(room, place)
                ledger.enter(deed, len(steps), 3, room_credit(room))
            elif plain == []:
                self.refuse(room)
            else:
                thing, room, steps = room_take(room)
                self.assertEqual(thing, plain.pop())
                ledger.enter(deed, len(steps), 2, room_credit(room))
            self.assertEqual(room[0], plain)
            self.hold_form(room)
        self.assertGreaterEqual(ledger.spare(), 0)

    def test_all_short_rows_of_deeds(self):
        for deeds in itertools.product(("put", "take"), repeat=9):
            self.run_deeds(deeds)

    def test_long_rows_of_deeds(self):
        self.run_deeds(["put"] * 300 + ["take"] * 305 + ["put", "take"] * 20)
        self.run_deeds((["put"] * 7 + ["take"] * 5) * 40 + ["take"] * 90)

    def test_to_and_fro_where_the_size_changes(self):
        for size in (4, 8, 16, 64):
            self.run_deeds(["put"] * size + ["put", "take"] * 30 + ["take"] * size)
            self.run_deeds(["put"] * (size + 1) + ["take"] * (size // 2 + 1) + ["put", "take", "take", "put"] * 20)


if __name__ == "__main__":
    unittest.main()
