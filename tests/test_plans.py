"""may and isplan, against a plain search through all placings; members and clients."""

import unittest
from itertools import product
from random import Random

from tests.plain import (
    HOUSE, answers_to, asked, asked_last, counted_may, full_house, in_order, placings, plain_may, plain_moved,
    set_up, small_house,
)


def as_places(moved, members):
    return [number for client, member in zip(moved, members) for number in (client[0], member)]


class May(unittest.TestCase):
    def test_ordinary(self):
        pairs = [(5, 10), (5, 20), (4, 10), (4, 20), (3, 20), (3, 10), (3, 30)]
        self.assertEqual(answers_to(HOUSE, [("may", *pair) for pair in pairs]), [[0], [1], [1], [0], [1], [0], [0]])

    def test_a_left_client_may_go_nowhere(self):
        self.assertEqual(answers_to(HOUSE, [("may", key, member) for key in (6, 9) for member in (10, 20, 30)]),
                         [[0]] * 6)

    def test_a_left_client_for_whom_there_is_room_in_some_placing_of_fewer(self):
        house = set_up({1: 1}, [(1, 0, [1]), (2, 1, [1])])
        self.assertEqual(answers_to(house, [("may", 1, 1), ("may", 2, 1)]), [[1], [0]])

    def test_a_member_that_is_no_taker_but_has_room(self):
        house = set_up({1: 1, 2: 5}, [(1, 0, [1])])
        self.assertEqual(answers_to(house, [("may", 1, 1), ("may", 1, 2)]), [[1], [0]])

    def test_members_it_doesn_t_go_to(self):
        house = set_up({1: 1, 2: 1, 3: 1}, [(1, 0, [1, 2]), (2, 1, [2, 3]), (3, 2, [3, 1]), (4, 3, [1])])
        self.assertEqual(answers_to(house, [("may", key, member) for key in (1, 2, 3, 4) for member in (1, 2, 3)]),
                         [[1], [1], [0], [0], [1], [1], [1], [0], [1], [0], [0], [0]])

    def test_all_moved_are_to_be_placed(self):
        house = set_up({1: 1, 2: 1}, [(1, 0, [1, 2]), (2, 1, [1, 2]), (3, 2, [1, 2])])
        self.assertEqual(answers_to(house, [("may", 1, 2), ("takers", 2, [2]), ("may", 1, 2), ("may", 2, 2)]),
                         [[1], [0], [0], [1]])

    def test_many_small_houses(self):
        chance = Random(41)
        for number in range(800):
            rooms, clients = small_house(chance)
            pairs = [(client[0], member) for client in clients for member in rooms]
            with self.subTest(rooms=rooms, clients=clients):
                self.assertEqual(answers_to(set_up(rooms, clients), [("may", *pair) for pair in pairs]),
                                 [[1 if plain_may(rooms, clients, *pair) else 0] for pair in pairs])

    def test_full_houses(self):
        chance = Random(42)
        for number in range(4):
            rooms, clients = full_house(chance)
            pairs = [(client[0], member) for client in clients for member in chance.sample(list(rooms), 2)]
            pairs += [(client[0], member) for client in clients for member in client[2][:2]]
            with self.subTest(rooms=rooms, clients=clients):
                self.assertEqual(answers_to(set_up(rooms, clients), [("may", *pair) for pair in pairs]),
                                 [[1 if counted_may(rooms, clients, *pair) else 0] for pair in pairs])


class IsPlan(unittest.TestCase):
    def test_ordinary(self):
        plans = {
            (5, 20, 4, 10, 3, 20): 1,
            (5, 20, 4, 10): 0, (4, 10, 3, 20): 0, (): 0,  # one missing, or all
            (5, 20, 4, 10, 3, 20, 6, 30): 0, (9, 20, 5, 20, 4, 10, 3, 20): 0,  # one too many
            (5, 20, 4, 10, 3, 20, 3, 20): 0, (5, 20, 5, 20, 4, 10, 3, 20): 0, (5, 20, 4, 10, 4, 10): 0,  # one twice
            (4, 10, 5, 20, 3, 20): 0, (3, 20, 4, 10, 5, 20): 0,  # out of order
            (5, 20, 4, 20, 3, 20): 0, (5, 30, 4, 10, 3, 20): 0,  # no taker of it
            (5, 10, 4, 10, 3, 20): 0, (5, 20, 4, 10, 3, 10): 0, (5, 20, 4, 10, 3, 30): 0,  # more than the room
            (5, 20, 4, 10, 99, 20): 0, (5, 20, 4, 10, 3, 99): 0, (20, 5, 10, 4, 20, 3): 0,  # not there
            (5, 20, 4, 10, 6, 20): 0,  # a left one in the place of one moved
        }
        for places, told in plans.items():
            with self.subTest(places=places):
                self.assertEqual(asked_last(HOUSE + [("isplan", list(places))]), [told])

    def test_a_member_that_is_no_taker_but_has_room(self):
        house = set_up({1: 1, 2: 5}, [(1, 0, [1])])
        self.assertEqual(answers_to(house, [("isplan", [1, 2]), ("isplan", [1, 1])]), [[0], [1]])

    def test_other_placings_of_all_the_moved(self):
        house = set_up({1: 1, 2: 1}, [(1, 0, [1, 2]), (2, 1, [2, 1]), (3, 2, [2])])
        plans = ([1, 1, 2, 2], [1, 2, 2, 1], [1, 2, 2, 2], [1, 1, 2, 1], [2, 2, 1, 1], [2, 1, 1, 2])
        self.assertEqual(answers_to(house, [("isplan", places) for places in plans]),
                         [[1], [1], [0], [0], [0], [0]])

    def test_a_placing_of_as_many_others_is_none(self):
        house = set_up({1: 1}, [(1, 0, [1]), (2, 1, [1])])
        self.assertEqual(answers_to(house, [("isplan", [2, 1]), ("isplan", [1, 1]), ("isplan", [])]),
                         [[0], [1], [0]])

    def test_what_moved_tells_is_one(self):
        chance = Random(43)
        for number in range(300):
            house = set_up(*(small_house(chance) if number % 3 else full_house(chance)))
            told = asked_last(house + [("moved",)])[1:]
            with self.subTest(house=house):
                self.assertEqual(asked_last(house + [("isplan", told)]), [1])
                if told:
                    self.assertEqual(answers_to(house, [("isplan", told[:-2]), ("isplan", told[2:]),
                                                        ("isplan", told[-2:] + told)]), [[0], [0]]
                                     + [[-1] if len(told) == 32 else [0]])

    def test_every_way_to_give_the_moved_a_member(self):
        chance = Random(44)
        ways = 0
        for number in range(400):
            rooms, clients = small_house(chance, most_clients=4)
            moved = plain_moved(rooms, clients)
            open_placings = placings(rooms, moved)
            ways += len(open_placings) > 1
            every = list(product(rooms, repeat=len(moved)))
            every = chance.sample(every, min(len(every), 60)) + open_placings[:60]
            with self.subTest(rooms=rooms, clients=clients):
                told = answers_to(set_up(rooms, clients),
                                  [("isplan", as_places(moved, members)) for members in every])
                self.assertEqual(told, [[1 if members in open_placings else 0] for members in every])
        self.assertGreater(ways, 50)

    def test_other_clients_in_the_place_of_those_moved(self):
        chance = Random(45)
        for number in range(300):
            rooms, clients = small_house(chance, most_clients=4)
            moved = plain_moved(rooms, clients)
            tries = [chance.sample(clients, chance.randint(0, len(clients))) for each in range(20)]
            calls, expected = [], []
            for some in tries:
                for members in placings(rooms, some)[:8]:
                    calls.append(("isplan", as_places(some, members)))
                    expected.append([1 if some == moved else 0])
            with self.subTest(rooms=rooms, clients=clients):
                self.assertEqual(answers_to(set_up(rooms, clients), calls), expected)


class TheHouseTold(unittest.TestCase):
    def test_members_by_rising_keys(self):
        self.assertEqual(asked_last(HOUSE + [("members",)]), [3, 10, 1, 20, 2, 30, 0])

    def test_clients_in_order_with_the_best_liked_taker_first(self):
        self.assertEqual(asked_last(HOUSE + [("clients",)]),
                         [5, 9, 1, 0, 5, 7, 2, 10, 20, 4, 8, 1, 10, 3, 9, 3, 20, 10, 30, 6, 9, 2, 30, 20])

    def test_after_each_call_that_changes_the_house(self):
        both = [("members",), ("clients",)]
        calls = [
            ("member", 7, 16), ("client", 8, 9, [20, 7]), ("drop", 9), ("room", 10, 5), ("order", 4, 1000000),
            ("takers", 3, [10]), ("takers", 6, [20]), ("gone", 30), ("order", 6, 1000000), ("move",),
        ]
        told = answers_to(HOUSE, [every for call in calls for every in [call] + both])
        self.assertEqual(told[0::3], [[0], [0], [0], [1], [8], [0], [0], [0], [9], [5, 0]])
        self.assertEqual(told[1::3], [
            [4, 7, 16, 10, 1, 20, 2, 30, 0], [4, 7, 16, 10, 1, 20, 2, 30, 0], [4, 7, 16, 10, 1, 20, 2, 30, 0],
            [4, 7, 16, 10, 5, 20, 2, 30, 0], [4, 7, 16, 10, 5, 20, 2, 30, 0], [4, 7, 16, 10, 5, 20, 2, 30, 0],
            [4, 7, 16, 10, 5, 20, 2, 30, 0], [3, 7, 16, 10, 5, 20, 2], [3, 7, 16, 10, 5, 20, 2],
            [3, 7, 16, 10, 2, 20, 0],
        ])
        client5, client8 = [5, 7, 2, 10, 20], [8, 9, 2, 20, 7]
        before = [9, 1, 0] + client5 + [4, 8, 1, 10, 3, 9, 3, 20, 10, 30, 6, 9, 2, 30, 20]
        self.assertEqual(told[2::3], [
            [5] + before,
            [6] + before + client8,
            [5] + before[3:] + client8,
            [5] + before[3:] + client8,
            [5] + client5 + [3, 9, 3, 20, 10, 30, 6, 9, 2, 30, 20] + client8 + [4, 1000000, 1, 10],
            [5] + client5 + [3, 9, 1, 10, 6, 9, 2, 30, 20] + client8 + [4, 1000000, 1, 10],
            [5] + client5 + [3, 9, 1, 10, 6, 9, 1, 20] + client8 + [4, 1000000, 1, 10],
            [5] + client5 + [3, 9, 1, 10, 6, 9, 1, 20] + client8 + [4, 1000000, 1, 10],
            [5] + client5 + [3, 9, 1, 10] + client8 + [4, 1000000, 1, 10, 6, 1000000, 1, 20],
            [0],
        ])

    def test_after_move_the_left_are_as_they_were(self):
        self.assertEqual(answers_to(HOUSE, [("move",), ("members",), ("clients",)]),
                         [[3, 2], [3, 10, 0, 20, 0, 30, 0], [2, 9, 1, 0, 6, 9, 2, 30, 20]])

    def test_many_small_houses(self):
        chance = Random(46)
        for number in range(300):
            rooms, clients = small_house(chance) if number % 3 else full_house(chance)
            members = [number for key in sorted(rooms) for number in (key, rooms[key])]
            listed = [number for key, order, takers in in_order(clients)
                      for number in [key, order, len(takers)] + takers]
            with self.subTest(rooms=rooms, clients=clients):
                self.assertEqual(answers_to(set_up(rooms, clients), [("members",), ("clients",)]),
                                 [[len(rooms)] + members, [len(clients)] + listed])


if __name__ == "__main__":
    unittest.main()
