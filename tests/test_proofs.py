"""why, check, bound and cover, against a plain search through all sets of members, and promise 2."""

import unittest
from random import Random

from tests.plain import (
    HOUSE, answers_to, asked, asked_last, counted_moved, covering_sets, full_house, in_order, least,
    plain_bound, plain_left, plain_moved, proving_sets, set_up, sets_of, small_house,
)

KEYS = (5, 4, 6, 3, 9)


class Why(unittest.TestCase):
    def test_ordinary(self):
        self.assertEqual(answers_to(HOUSE, [("why", key) for key in KEYS]),
                         [[-6], [-6], [3, 10, 20, 30], [-6], [0]])

    def test_members_that_those_there_can_t_go_to_are_not_in_it(self):
        house = set_up({1: 1, 2: 1, 3: 1, 4: 0}, [(1, 0, [1]), (2, 0, [2]), (3, 1, [3, 2]), (7, 2, [2])])
        self.assertEqual(asked_last(house + [("why", 7)]), [1, 2])
        house = set_up({1: 1, 2: 1, 3: 1, 4: 0}, [(1, 0, [1]), (2, 0, [2, 4]), (3, 1, [3, 2]), (7, 2, [3])])
        self.assertEqual(asked_last(house + [("why", 7)]), [3, 2, 3, 4])

    def test_those_behind_it_count_for_nothing(self):
        house = set_up({1: 1, 2: 1}, [(1, 0, [1]), (2, 1, [1]), (3, 2, [2, 1]), (4, 3, [2])])
        self.assertEqual(answers_to(house, [("why", 2), ("why", 4)]), [[1, 1], [2, 1, 2]])

    def test_what_it_is_after_a_change(self):
        self.assertEqual(answers_to(HOUSE, [("drop", 5), ("why", 6), ("order", 6, 10), ("takers", 3, [20]),
                                            ("order", 3, 0), ("room", 20, 1), ("why", 6)]),
                         [[0], [-6], [9], [0], [9], [2], [2, 20, 30]])

    def test_many_small_houses(self):
        chance = Random(21)
        count = 0
        for number in range(2000):
            rooms, clients = small_house(chance)
            moved = plain_moved(rooms, clients)
            with self.subTest(rooms=rooms, clients=clients):
                told = answers_to(set_up(rooms, clients), [("why", client[0]) for client in clients])
                for client, answer in zip(clients, told):
                    sets = proving_sets(rooms, clients, moved, client)
                    if client in moved:
                        self.assertEqual((sets, answer), ([], [-6]))
                        continue
                    count += len(sets) > 1
                    members = tuple(answer[1:])
                    self.assertEqual(answer[0], len(members))
                    self.assertEqual(list(members), sorted(members))
                    self.assertIn(members, [tuple(sorted(some)) for some in sets])
                    self.assertTrue(all(set(members) <= set(some) for some in sets))
        self.assertGreater(count, 100)

    def test_full_houses(self):
        chance = Random(22)
        for number in range(15):
            rooms, clients = full_house(chance)
            moved = counted_moved(rooms, clients)
            with self.subTest(rooms=rooms, clients=clients):
                told = answers_to(set_up(rooms, clients), [("why", client[0]) for client in clients])
                for client, answer in zip(clients, told):
                    if client in moved:
                        self.assertEqual(answer, [-6])
                    else:
                        members = least(proving_sets(rooms, clients, moved, client))
                        self.assertEqual(answer, [len(members)] + members)


class Check(unittest.TestCase):
    def test_ordinary(self):
        self.assertEqual(answers_to(HOUSE, [
            ("check", 6, [10, 20, 30]), ("check", 6, [30, 10, 20]), ("check", 6, [20, 30]), ("check", 6, [10, 20]),
            ("check", 6, []), ("check", 9, []), ("check", 9, [30]), ("check", 9, [10]), ("check", 9, [10, 20, 30]),
        ]), [[1], [1], [0], [0], [0], [1], [1], [0], [0]])

    def test_of_a_moved_client_nothing_proves_it(self):
        for key in (5, 4, 3):
            for members in sets_of([10, 20, 30]):
                self.assertEqual(asked_last(HOUSE + [("check", key, list(members))]), [0])

    def test_sets_larger_than_the_least_may_prove_it(self):
        house = set_up({1: 1, 2: 1, 3: 0}, [(1, 0, [1]), (2, 0, [2]), (3, 1, [1]), (4, 2, [2])])
        lists = [list(some) for some in sets_of([3, 2, 1])]
        told = answers_to(house, [("check", 3, members) for members in lists])
        self.assertEqual(told, [[1 if 1 in members else 0] for members in lists])

    def test_only_moved_clients_before_it_fill_a_set(self):
        house = set_up({1: 1, 2: 1}, [(1, 0, [1]), (2, 1, [1]), (3, 2, [2])])
        self.assertEqual(answers_to(house, [("check", 2, [1]), ("check", 2, [1, 2]), ("check", 3, [2])]),
                         [[1], [0], [0]])
        house = set_up({1: 2}, [(1, 0, [1]), (2, 1, []), (3, 2, [1])])
        self.assertEqual(answers_to(house, [("check", 2, [1]), ("check", 3, [1]), ("check", 2, [])]),
                         [[0], [0], [1]])

    def test_of_one_order_the_lower_key_is_before(self):
        house = set_up({1: 1}, [(9, 5, [1]), (3, 5, [1])])
        self.assertEqual(answers_to(house, [("check", 9, [1]), ("check", 3, [1]), ("why", 9), ("why", 3)]),
                         [[1], [0], [1, 1], [-6]])

    def test_every_set_of_many_small_houses(self):
        chance = Random(23)
        for number in range(600):
            rooms, clients = small_house(chance)
            moved = plain_moved(rooms, clients)
            sets = sets_of(rooms)
            calls, expected = [], []
            for client in clients:
                proving = proving_sets(rooms, clients, moved, client)
                for some in sets:
                    calls.append(("check", client[0], chance.sample(some, len(some))))
                    expected.append([1 if some in proving else 0])
            with self.subTest(rooms=rooms, clients=clients):
                self.assertEqual(answers_to(set_up(rooms, clients), calls), expected)

    def test_full_houses(self):
        chance = Random(24)
        for number in range(6):
            rooms, clients = full_house(chance)
            moved = counted_moved(rooms, clients)
            for client in chance.sample(clients, 4):
                proving = proving_sets(rooms, clients, moved, client)
                lists = [list(some) for some in sets_of(rooms)]
                with self.subTest(rooms=rooms, clients=clients, client=client):
                    told = answers_to(set_up(rooms, clients), [("check", client[0], members) for members in lists])
                    self.assertEqual(told, [[1 if tuple(members) in proving else 0] for members in lists])


class Bound(unittest.TestCase):
    def test_ordinary(self):
        lists = ([], [10], [10, 20, 30], [20, 10], [30], [30, 20])
        self.assertEqual(answers_to(HOUSE, [("bound", members) for members in lists]),
                         [[4], [4], [3], [5], [4], [5]])

    def test_every_set_of_many_small_houses_and_none_is_less_than_the_moved(self):
        chance = Random(25)
        for number in range(600):
            rooms, clients = small_house(chance)
            lists = [chance.sample(some, len(some)) for some in sets_of(rooms)]
            with self.subTest(rooms=rooms, clients=clients):
                told = answers_to(set_up(rooms, clients), [("bound", members) for members in lists] + [("moved",)])
                self.assertEqual(told[:-1], [[plain_bound(rooms, clients, members)] for members in lists])
                self.assertEqual(min(told[:-1]), told[-1][:1])


class Cover(unittest.TestCase):
    def test_ordinary(self):
        self.assertEqual(asked_last(HOUSE + [("cover",)]), [3, 10, 20, 30])
        self.assertEqual(asked_last(HOUSE + [("drop", 5), ("cover",)]), [0])

    def test_a_client_without_takers_adds_no_member(self):
        house = set_up({2: 1, 1: 1}, [(1, 0, []), (2, 1, [2]), (3, 2, [2])])
        self.assertEqual(answers_to(house, [("cover",), ("takers", 3, []), ("cover",)]), [[1, 2], [0], [0]])

    def test_all_that_are_left_count(self):
        house = set_up({7: 0, 3: 1, 5: 1, 1: 1}, [(1, 0, [3]), (2, 1, [3]), (3, 2, [7]), (4, 3, [5])])
        self.assertEqual(asked_last(house + [("cover",)]), [2, 3, 7])

    def test_many_small_houses(self):
        chance = Random(26)
        count = 0
        for number in range(2000):
            rooms, clients = small_house(chance)
            sets = covering_sets(rooms, clients, plain_moved(rooms, clients))
            count += len(sets) > 1
            with self.subTest(rooms=rooms, clients=clients):
                told = asked_last(set_up(rooms, clients) + [("cover",)])
                self.assertEqual(told[0], len(told) - 1)
                self.assertEqual(told[1:], sorted(told[1:]))
                self.assertIn(told[1:], [sorted(some) for some in sets])
                self.assertTrue(all(set(told[1:]) <= set(some) for some in sets))
        self.assertGreater(count, 100)

    def test_full_houses(self):
        chance = Random(27)
        for number in range(40):
            rooms, clients = full_house(chance)
            members = least(covering_sets(rooms, clients, counted_moved(rooms, clients)))
            with self.subTest(rooms=rooms, clients=clients):
                self.assertEqual(asked_last(set_up(rooms, clients) + [("cover",)]), [len(members)] + members)


class Promise2(unittest.TestCase):
    def test_whoever_is_left_has_a_proof(self):
        chance = Random(28)
        for number in range(600):
            rooms, clients = small_house(chance) if number % 6 else full_house(chance)
            house = set_up(rooms, clients)
            told = asked(house + [("left",), ("moved",)])[len(house):]
            left, places = told[0][1:], list(zip(told[1][1::2], told[1][2::2]))
            self.assertEqual(sorted(left + [client for client, member in places]),
                             sorted(client[0] for client in clients))
            with self.subTest(rooms=rooms, clients=clients):
                for key in left:
                    members = asked_last(house + [("why", key)])[1:]
                    self.assertEqual(asked_last(house + [("check", key, members)]), [1])
                    self.filled(rooms, clients, key, members, dict(places))

    def filled(self, rooms, clients, key, members, places):
        keys = [client[0] for client in in_order(clients)]
        takers = {client[0]: client[2] for client in clients}
        self.assertTrue(set(takers[key]) <= set(members))
        there = [client for client in places if places[client] in members]
        self.assertEqual(len(there), sum(rooms[member] for member in members))
        for client in there:
            self.assertLess(keys.index(client), keys.index(key))
            self.assertTrue(set(takers[client]) <= set(members))

    def test_who_is_left_is_who_has_one(self):
        chance = Random(29)
        for number in range(300):
            rooms, clients = small_house(chance)
            house = set_up(rooms, clients)
            with self.subTest(rooms=rooms, clients=clients):
                told = answers_to(house, [("why", client[0]) for client in clients])
                left = [client[0] for client, answer in zip(clients, told) if answer != [-6]]
                self.assertEqual(sorted(left), sorted(plain_left(rooms, clients)))


if __name__ == "__main__":
    unittest.main()
