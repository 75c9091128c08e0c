"""The edges that the document names."""

import unittest

from tests.plain import asked, asked_last, set_up

HIGHEST = 1000000000
BIG = 10 ** 18


class Ranges(unittest.TestCase):
    def each(self, before, calls, told):
        for call, number in zip(calls, told):
            with self.subTest(call=call):
                self.assertEqual(asked_last(before + [call]), [number])

    def test_keys(self):
        keys = (0, 1, HIGHEST, HIGHEST + 1, -BIG, BIG)
        house = set_up({1: 2, HIGHEST: 3}, [(1, 4, []), (HIGHEST, 5, [])])
        self.each([], [("member", key, 0) for key in keys], (-1, 0, 0, -1, -1, -1))
        self.each([], [("client", key, 0, []) for key in keys], (-1, 0, 0, -1, -1, -1))
        self.each(house, [("gone", key) for key in keys], (-1, 2, 3, -1, -1, -1))
        self.each(house, [("drop", key) for key in keys], (-1, 0, 0, -1, -1, -1))
        self.each(house, [("room", key, 0) for key in keys], (-1, 2, 3, -1, -1, -1))
        self.each(house, [("order", key, 0) for key in keys], (-1, 4, 5, -1, -1, -1))
        self.each(house, [("takers", key, []) for key in keys], (-1, 0, 0, -1, -1, -1))
        self.each(house, [("where", key) for key in keys], (-1, 0, 0, -1, -1, -1))
        self.each(house, [("why", key) for key in keys], (-1, 0, 0, -1, -1, -1))
        self.each(house, [("check", key, []) for key in keys], (-1, 1, 1, -1, -1, -1))
        for name in ("without", "roomier", "first"):
            self.each(house, [(name, key) for key in keys], (-1, 0, 0, -1, -1, -1))
        self.each(house, [("may", key, 1) for key in keys], (-1, 0, 0, -1, -1, -1))
        self.each(house, [("may", 1, key) for key in keys], (-1, 0, 0, -1, -1, -1))
        house = set_up({1: 1, HIGHEST: 1}, [(1, 0, [HIGHEST]), (HIGHEST, 1, [HIGHEST, 1])])
        self.each(house, [("may", key, HIGHEST) for key in keys], (-1, 1, 0, -1, -1, -1))
        self.each(house, [("may", HIGHEST, key) for key in keys], (-1, 1, 0, -1, -1, -1))

    def test_keys_in_lists(self):
        keys = (0, 1, HIGHEST, HIGHEST + 1, -BIG, BIG)
        house = set_up({1: 2, 5: 1, HIGHEST: 3}, [(7, 4, [])])
        self.each(house, [("client", 8, 0, [key]) for key in keys], (-1, 0, 0, -1, -1, -1))
        self.each(house, [("client", 8, 0, [5, key]) for key in keys], (-1, 0, 0, -1, -1, -1))
        self.each(house, [("takers", 7, [key]) for key in keys], (-1, 0, 0, -1, -1, -1))
        self.each(house, [("takers", 7, [5, key]) for key in keys], (-1, 0, 0, -1, -1, -1))
        self.each(house, [("check", 7, [key]) for key in keys], (-1, 0, 0, -1, -1, -1))
        self.each(house, [("check", 7, [5, key]) for key in keys], (-1, 0, 0, -1, -1, -1))
        self.each(house, [("bound", [key]) for key in keys], (-1, 2, 3, -1, -1, -1))
        self.each(house, [("bound", [5, key]) for key in keys], (-1, 3, 4, -1, -1, -1))

    def test_keys_in_places(self):
        keys = (0, 1, HIGHEST, HIGHEST + 1, -BIG, BIG)
        house = set_up({1: 1, HIGHEST: 1}, [(1, 0, [HIGHEST]), (HIGHEST, 1, [HIGHEST, 1])])
        self.each(house, [("isplan", [key, HIGHEST, HIGHEST, 1]) for key in keys], (-1, 1, 0, -1, -1, -1))
        self.each(house, [("isplan", [1, key, HIGHEST, 1]) for key in keys], (-1, 0, 1, -1, -1, -1))
        self.each(house, [("isplan", [1, HIGHEST, key, 1]) for key in keys], (-1, 0, 1, -1, -1, -1))
        self.each(house, [("isplan", [1, HIGHEST, HIGHEST, key]) for key in keys], (-1, 1, 0, -1, -1, -1))

    def test_rooms(self):
        rooms = (0, 16, 17, -1, -BIG, BIG)
        self.each([], [("member", 1, room) for room in rooms], (0, 0, -1, -1, -1, -1))
        self.each([("member", 1, 9)], [("room", 1, room) for room in rooms], (9, 9, -1, -1, -1, -1))

    def test_orders(self):
        orders = (0, 1000000, 1000001, -1, -BIG, BIG)
        self.each([], [("client", 1, order, []) for order in orders], (0, 0, -1, -1, -1, -1))
        self.each([("client", 1, 9, [])], [("order", 1, order) for order in orders], (9, 9, -1, -1, -1, -1))

    def test_lists_of_0_8_9_and_40(self):
        house = set_up({key: 1 for key in range(1, 9)}, [(1, 0, [])])
        lists = ([], list(range(1, 9)), list(range(1, 10)), [1] * 9, list(range(1, 41)), [1] * 40)
        self.each(house, [("client", 2, 0, keys) for keys in lists], (0, 0, -1, -1, -1, -1))
        self.each(house, [("takers", 1, keys) for keys in lists], (0, 0, -1, -1, -1, -1))
        self.each(house, [("takers", 1, keys) for keys in ([1] * 8, [8, 7, 6, 5, 4, 3, 2, 9])], (-3, -4))
        self.each(house, [("check", 1, keys) for keys in lists], (1, 0, -1, -1, -1, -1))
        self.each(house, [("check", 1, keys) for keys in ([1] * 8, [8, 7, 6, 5, 4, 3, 2, 9])], (-3, -4))
        self.each(house, [("bound", keys) for keys in lists], (0, 8, -1, -1, -1, -1))
        self.each(house, [("bound", keys) for keys in ([1] * 8, [8, 7, 6, 5, 4, 3, 2, 9])], (-3, -4))

    def test_places_of_0_1_31_32_33_34_and_40(self):
        clients = [(key, key, [1, 2]) for key in range(1, 17)]
        house = set_up({1: 15, 2: 1}, clients)
        plan = [number for key in range(1, 17) for number in (key, 2 if key == 7 else 1)]
        lists = ([], [1], plan[:31], plan, plan + [1], plan + [1, 1], plan + [1] * 8)
        self.each(house, [("isplan", places) for places in lists], (0, -1, -1, 1, -1, -1, -1))
        self.each([], [("isplan", places) for places in lists], (1, -1, -1, 0, -1, -1, -1))
        self.each(house, [("isplan", [5] * count) for count in (2, 30, 32, 33, 34, 39, 40)],
                  (0, 0, 0, -1, -1, -1, -1))


class Counts(unittest.TestCase):
    def test_the_ninth_member(self):
        calls = [("member", key, 1) for key in range(1, 10)]
        self.assertEqual(asked(calls), [[0]] * 8 + [[-9]])
        self.assertEqual(asked(calls + [("gone", 3), ("member", 9, 1), ("member", 3, 1)])[9:], [[1], [0], [-9]])

    def test_the_seventeenth_client(self):
        calls = [("client", key, 1, []) for key in range(1, 18)]
        self.assertEqual(asked(calls), [[0]] * 16 + [[-9]])
        self.assertEqual(asked(calls + [("drop", 3), ("client", 17, 1, []), ("client", 3, 1, [])])[17:],
                         [[0], [0], [-9]])

    def test_sixteen_clients_moved_make_room_for_sixteen_more(self):
        clients = [("client", key, 1, [1]) for key in range(1, 17)]
        told = asked([("member", 1, 16)] + clients + [("move",)] + clients + [("move",), ("room", 1, 0)])
        self.assertEqual(told, [[0]] * 17 + [[16, 0]] + [[0]] * 16 + [[0, 16], [0]])


class Houses(unittest.TestCase):
    def test_no_members_and_no_clients(self):
        self.assertEqual(asked([("moved",), ("left",), ("move",), ("where", 1)]), [[0], [0], [0, 0], [-4]])
        self.assertEqual(asked([("members",), ("clients",), ("cover",), ("bound", []), ("isplan", [])]),
                         [[0], [0], [0], [0], [1]])

    def test_no_members(self):
        house = set_up({}, [(2, 1, []), (1, 1, [])])
        self.assertEqual(asked(house + [("moved",), ("left",), ("where", 2), ("move",), ("left",)])[2:],
                         [[0], [2, 1, 2], [0], [0, 2], [2, 1, 2]])
        self.assertEqual(asked(house + [("why", 1), ("check", 2, []), ("bound", []), ("cover",), ("isplan", []),
                                        ("without", 1), ("first", 2), ("members",), ("clients",)])[2:],
                         [[0], [1], [0], [0], [1], [0], [0], [0], [2, 1, 1, 0, 2, 1, 0]])

    def test_no_clients(self):
        house = set_up({1: 1}, [])
        self.assertEqual(asked(house + [("moved",), ("left",), ("move",), ("room", 1, 0)])[1:],
                         [[0], [0], [0, 0], [1]])
        self.assertEqual(asked(house + [("bound", []), ("bound", [1]), ("cover",), ("isplan", []), ("roomier", 1),
                                        ("members",), ("clients",)])[1:],
                         [[0], [1], [0], [1], [0], [1, 1, 1], [0]])

    def test_a_client_without_takers_is_left(self):
        house = set_up({1: 16}, [(2, 0, []), (3, 1, [1])])
        self.assertEqual(asked(house + [("moved",), ("left",), ("where", 2), ("move",), ("left",)])[3:],
                         [[1, 3, 1], [1, 2], [0], [1, 1], [1, 2]])
        self.assertEqual(asked(house + [("why", 2), ("check", 2, []), ("check", 2, [1]), ("bound", []), ("bound", [1]),
                                        ("cover",), ("without", 2), ("first", 2), ("roomier", 1), ("may", 2, 1)])[3:],
                         [[0], [1], [0], [1], [16], [0], [0], [0], [0], [0]])

    def test_a_member_without_room_takes_nobody(self):
        house = set_up({1: 0, 2: 1}, [(2, 0, [1]), (3, 1, [1, 2])])
        self.assertEqual(asked(house + [("moved",), ("left",)])[4:], [[1, 3, 2], [1, 2]])
        self.assertEqual(asked(house + [("why", 2), ("check", 2, [1]), ("check", 2, []), ("check", 2, [1, 2]),
                                        ("bound", [1]), ("cover",), ("may", 3, 1), ("may", 3, 2), ("roomier", 1),
                                        ("isplan", [3, 1]), ("isplan", [3, 2]), ("first", 2)])[4:],
                         [[1, 1], [1], [0], [0], [1], [1, 1], [0], [1], [1, 2], [0], [1], [0]])

    def test_a_member_without_room_that_nobody_left_would_go_to(self):
        house = set_up({1: 0, 2: 1}, [(2, 0, [2]), (3, 1, [2])])
        self.assertEqual(asked(house + [("cover",), ("why", 3), ("check", 3, [2]), ("check", 3, [1, 2]),
                                        ("drop", 3), ("cover",)])[4:],
                         [[1, 2], [1, 2], [1], [1], [0], [0]])

    def test_of_one_order_the_lower_key_is_before(self):
        house = set_up({1: 2}, [(9, 5, [1]), (3, 5, [1]), (HIGHEST, 4, [1]), (1, 6, [1])])
        self.assertEqual(asked(house + [("moved",), ("left",)])[5:], [[2, HIGHEST, 1, 3, 1], [2, 9, 1]])
        self.assertEqual(asked(house + [("check", 9, [1]), ("check", 3, [1]), ("why", 9), ("why", 3), ("first", 9),
                                        ("without", 3), ("isplan", [HIGHEST, 1, 3, 1]), ("clients",)])[5:],
                         [[1], [0], [1, 1], [-6], [1, 3], [1, 9], [1],
                          [4, HIGHEST, 4, 1, 1, 3, 5, 1, 1, 9, 5, 1, 1, 1, 6, 1, 1]])

    def test_keys_of_members_and_clients_are_apart(self):
        self.assertEqual(asked([("member", 1, 3), ("client", 1, 0, [1]), ("drop", 1), ("gone", 1),
                                ("client", 1, 0, []), ("where", 1), ("gone", 1)]),
                         [[0], [0], [0], [3], [0], [0], [-4]])

    def test_orders_at_the_ends(self):
        house = set_up({1: 1}, [(1, 1000000, [1]), (2, 0, [1])])
        self.assertEqual(asked_last(house + [("moved",)]), [1, 2, 1])


if __name__ == "__main__":
    unittest.main()
