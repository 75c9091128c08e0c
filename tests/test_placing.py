"""Who is moved and where they go, and promise 1, against a plain search through all placings."""

import unittest
from itertools import permutations
from random import Random

from tests.plain import (
    asked, asked_last, counted_places, most_placed, plain_left, plain_moved, plain_places, set_up, small_house,
)


def pairs(numbers):
    return list(zip(numbers[1::2], numbers[2::2]))


class WhoIsMoved(unittest.TestCase):
    def test_whoever_is_before_is_moved_whatever_it_means_for_those_behind(self):
        house = set_up({1: 1, 2: 1}, [(1, 0, [1]), (2, 1, [1, 2]), (3, 2, [2]), (4, 3, [2])])
        self.assertEqual(asked(house + [("moved",), ("left",)])[6:], [[2, 1, 1, 2, 2], [2, 3, 4]])

    def test_those_moved_before_give_way_by_going_elsewhere(self):
        house = set_up({1: 1, 2: 1, 3: 1}, [(1, 0, [1, 2]), (2, 1, [2, 3]), (3, 2, [1])])
        self.assertEqual(asked_last(house + [("moved",)]), [3, 1, 2, 2, 3, 3, 1])

    def test_one_left_doesn_t_stop_those_behind(self):
        house = set_up({1: 1, 2: 1}, [(1, 0, [1]), (2, 1, [1]), (3, 2, [1, 2])])
        self.assertEqual(asked(house + [("moved",), ("left",)])[5:], [[2, 1, 1, 3, 2], [1, 2]])

    def test_a_new_order_moves_others(self):
        house = set_up({1: 1}, [(1, 0, [1]), (2, 1, [1])])
        self.assertEqual(asked(house + [("order", 1, 2), ("moved",), ("order", 2, 2), ("moved",)])[3:],
                         [[0], [1, 2, 1], [1], [1, 1, 1]])


class WhereTheyGo(unittest.TestCase):
    def test_the_first_goes_to_what_it_likes_best(self):
        house = set_up({1: 1, 2: 1}, [(1, 0, [2, 1]), (2, 1, [2, 1])])
        self.assertEqual(asked_last(house + [("moved",)]), [2, 1, 2, 2, 1])

    def test_the_first_gets_less_liked_only_where_each_placing_of_the_moved_gives_it_less(self):
        house = set_up({1: 1, 2: 1}, [(1, 0, [2, 1]), (2, 1, [2])])
        self.assertEqual(asked_last(house + [("moved",)]), [2, 1, 1, 2, 2])

    def test_those_left_count_for_nothing(self):
        house = set_up({1: 1, 2: 1}, [(1, 0, [2, 1]), (2, 1, [1, 2]), (3, 2, [2])])
        self.assertEqual(asked_last(house + [("moved",)]), [2, 1, 2, 2, 1])

    def test_many_small_houses(self):
        chance = Random(1)
        for number in range(3000):
            rooms, clients = small_house(chance)
            places = plain_places(rooms, clients)
            left = plain_left(rooms, clients)
            with self.subTest(rooms=rooms, clients=clients):
                told = asked(set_up(rooms, clients) + [("moved",), ("left",)])[-2:]
                self.assertEqual(told[0][0], len(places))
                self.assertEqual(pairs(told[0]), places)
                self.assertEqual(told[1], [len(left)] + left)
                keys = [client[0] for client in clients]
                where = asked(set_up(rooms, clients) + [("where", key) for key in keys])
                self.assertEqual(where[len(where) - len(keys):], [[dict(places).get(key, 0)] for key in keys])

    def test_crowded_houses_where_most_have_to_give_way(self):
        chance = Random(2)
        for number in range(300):
            rooms = {key: chance.choice([1, 1, 1, 2]) for key in (1, 2, 3, 4)}
            clients = [(key, chance.randint(0, 3), chance.sample([1, 2, 3, 4], chance.randint(1, 3)))
                       for key in range(1, 8)]
            with self.subTest(rooms=rooms, clients=clients):
                told = asked_last(set_up(rooms, clients) + [("moved",)])
                self.assertEqual(pairs(told), plain_places(rooms, clients))


    def test_full_houses(self):
        chance = Random(8)
        keys = list(range(1, 9))
        for number in range(40):
            rooms = {key: chance.choice([0, 1, 2, 2, 3]) for key in keys}
            clients = [(key, chance.randint(0, 9), chance.sample(keys, chance.choice([1, 2, 2, 3, 8])))
                       for key in range(1, 17)]
            with self.subTest(rooms=rooms, clients=clients):
                places = counted_places(rooms, clients)
                self.assertEqual(pairs(asked_last(set_up(rooms, clients) + [("moved",)])), places)

    def test_the_count_agrees_with_the_search(self):
        chance = Random(9)
        for number in range(300):
            rooms, clients = small_house(chance)
            with self.subTest(rooms=rooms, clients=clients):
                self.assertEqual(counted_places(rooms, clients), plain_places(rooms, clients))


class Move(unittest.TestCase):
    def test_rooms_are_less_the_moved_are_gone_the_left_stay(self):
        chance = Random(3)
        for number in range(500):
            rooms, clients = small_house(chance)
            places = plain_places(rooms, clients)
            left = plain_left(rooms, clients)
            less = {key: room - [member for client, member in places].count(key) for key, room in rooms.items()}
            after = set_up(less, [client for client in clients if client[0] in left])
            more = [("room", key, 1) for key in rooms] + [("moved",), ("left",)]
            orders = [("order", client[0], 0) for client in clients]
            with self.subTest(rooms=rooms, clients=clients):
                told = asked(set_up(rooms, clients) + [("move",)] + more + orders)
                at = len(rooms) + len(clients)
                self.assertEqual(told[at], [len(places), len(left)])
                self.assertEqual(told[at + 1:], asked(after + more + orders)[len(after):])


class Promise1(unittest.TestCase):
    def test_by_no_other_order_can_more_be_moved(self):
        chance = Random(4)
        for number in range(150):
            rooms, clients = small_house(chance, most_clients=4)
            house = set_up(rooms, clients)
            count = asked_last(house + [("moved",)])[0]
            with self.subTest(rooms=rooms, clients=clients):
                for orders in permutations(range(len(clients))):
                    changed = [("order", client[0], order) for client, order in zip(clients, orders)]
                    self.assertEqual(asked_last(house + changed + [("moved",)])[0], count)

    def test_by_no_other_way_can_more_be_moved(self):
        chance = Random(5)
        for number in range(400):
            rooms, clients = small_house(chance, most_clients=6)
            with self.subTest(rooms=rooms, clients=clients):
                count = asked_last(set_up(rooms, clients) + [("moved",)])[0]
                self.assertEqual(count, most_placed(rooms, clients))
                self.assertEqual(count, len(plain_moved(rooms, clients)))


if __name__ == "__main__":
    unittest.main()
