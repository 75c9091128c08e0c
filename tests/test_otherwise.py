"""without, roomier and first, against who is moved in the house so changed, and promise 3."""

import unittest
from random import Random

from tests.plain import (
    HOUSE, answers_to, asked, asked_last, counted_moved, full_house, in_order, plain_first, plain_moved,
    plain_roomier, plain_without, set_up, small_house,
)

KEYS = (5, 4, 6, 3, 9)


def otherwise(rooms, clients):
    return ([("without", client[0]) for client in clients] + [("roomier", key) for key in rooms]
            + [("first", client[0]) for client in clients])


class Ordinary(unittest.TestCase):
    def test_without(self):
        self.assertEqual(answers_to(HOUSE, [("without", key) for key in KEYS]), [[1, 6], [1, 6], [0], [1, 6], [0]])

    def test_without_lets_in_the_first_that_can_be(self):
        house = set_up({1: 1}, [(8, 0, [1]), (2, 3, [1]), (5, 2, [1])])
        self.assertEqual(answers_to(house, [("without", 8), ("without", 5)]), [[1, 5], [0]])

    def test_roomier(self):
        self.assertEqual(answers_to(HOUSE, [("roomier", key) for key in (10, 20, 30)]), [[1, 6], [1, 6], [1, 6]])

    def test_roomier_where_nobody_would_go(self):
        house = set_up({1: 1, 2: 0, 3: 2}, [(8, 0, [1, 3]), (2, 3, [1, 3]), (5, 2, [2])])
        self.assertEqual(answers_to(house, [("roomier", key) for key in (1, 2, 3)]), [[0], [1, 5], [0]])

    def test_roomier_of_the_largest_room(self):
        house = set_up({1: 16, 2: 0}, [(key, 0, [1]) for key in range(1, 16)] + [(16, 0, [2])])
        self.assertEqual(answers_to(house, [("roomier", 1), ("roomier", 2)]), [[0], [1, 16]])

    def test_first(self):
        self.assertEqual(answers_to(HOUSE, [("first", key) for key in KEYS]), [[0], [0], [1, 3], [0], [0]])

    def test_first_pushes_out_the_last_that_is_in_its_way(self):
        house = set_up({1: 1, 2: 1}, [(8, 0, [1]), (2, 3, [2]), (5, 5, [1])])
        self.assertEqual(answers_to(house, [("first", 5), ("takers", 5, [2, 1]), ("first", 5), ("first", 8)]),
                         [[1, 8], [0], [1, 2], [0]])

    def test_first_comes_before_order_0_and_the_lowest_key(self):
        house = set_up({1: 1}, [(1, 0, [1]), (2, 1000000, [1]), (3, 0, [1])])
        self.assertEqual(answers_to(house, [("first", 2), ("first", 3), ("first", 1), ("first", 3)]),
                         [[1, 1], [1, 1], [0], [1, 1]])


class AgainstTheHouseSoChanged(unittest.TestCase):
    def compare(self, rooms, clients, moved_by):
        expected = [plain_without(rooms, clients, client[0], moved_by) for client in clients]
        expected += [plain_roomier(rooms, clients, key, moved_by) for key in rooms]
        expected += [plain_first(rooms, clients, client[0], moved_by) for client in clients]
        with self.subTest(rooms=rooms, clients=clients):
            self.assertEqual(answers_to(set_up(rooms, clients), otherwise(rooms, clients)), expected)
        return [len([answer for answer in expected if answer[0] == count]) for count in (0, 1)]

    def test_many_small_houses(self):
        chance = Random(31)
        nobody = somebody = 0
        for number in range(1200):
            counts = self.compare(*small_house(chance), plain_moved)
            nobody += counts[0]
            somebody += counts[1]
        self.assertGreater(min(nobody, somebody), 500)

    def test_full_houses(self):
        chance = Random(32)
        for number in range(3):
            self.compare(*full_house(chance), counted_moved)


class Promise3(unittest.TestCase):
    """By changes that the house's own calls make."""

    def keys_moved(self, house):
        return asked_last(house + [("moved",)])[1::2]

    def houses(self, chance):
        for number in range(300):
            rooms, clients = small_house(chance) if number % 10 else full_house(chance)
            yield rooms, clients, set_up(rooms, clients)

    def test_one_more_room_moves_one_more_at_the_most_and_nobody_less(self):
        for rooms, clients, house in self.houses(Random(33)):
            now = self.keys_moved(house)
            for key in rooms:
                then = self.keys_moved(house + [("room", key, rooms[key] + 1)])
                more = [client for client in then if client not in now]
                with self.subTest(rooms=rooms, clients=clients, key=key):
                    self.assertTrue(set(now) <= set(then))
                    self.assertLessEqual(len(more), 1)
                    self.assertEqual(asked_last(house + [("roomier", key)]), [len(more)] + more)

    def test_one_client_less_lets_one_other_in_at_the_most(self):
        for rooms, clients, house in self.houses(Random(34)):
            now = self.keys_moved(house)
            for client in clients:
                then = self.keys_moved(house + [("drop", client[0])])
                more = [key for key in then if key not in now]
                with self.subTest(rooms=rooms, clients=clients, client=client):
                    self.assertLessEqual(len(more), 1)
                    self.assertTrue(set(now) - {client[0]} <= set(then))
                    self.assertEqual(asked_last(house + [("without", client[0])]), [len(more)] + more)

    def test_one_client_put_first_pushes_one_other_out_at_the_most(self):
        for rooms, clients, house in self.houses(Random(35)):
            now = self.keys_moved(house)
            ranks = [("order", client[0], rank) for rank, client in enumerate(in_order(clients), 1)]
            for client in clients:
                then = self.keys_moved(house + ranks + [("order", client[0], 0)])
                out = [key for key in now if key not in then]
                with self.subTest(rooms=rooms, clients=clients, client=client):
                    self.assertLessEqual(len(out), 1)
                    self.assertNotIn(client[0], out)
                    self.assertEqual(asked_last(house + [("first", client[0])]), [len(out)] + out)


if __name__ == "__main__":
    unittest.main()
