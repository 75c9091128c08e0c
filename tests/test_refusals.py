"""Each refusal of each call, which one is told where several are due, and that nothing changes."""

import unittest
from random import Random

from tests.plain import asked, revealed, set_up, small_house

BIG = 10 ** 18
NO_KEYS = (0, -1, 1000000001, BIG, -BIG)
NO_ROOMS = (-1, 17, BIG, -BIG)
NO_ORDERS = (-1, 1000001, BIG, -BIG)

SMALL = set_up({10: 1, 20: 2, 30: 0}, [(5, 7, [30, 10, 20]), (6, 0, []), (7, 7, [10])])
FREE_MEMBER = [("member", 40, 3)]
# A house that is full of both: members 1 to 8, clients 1 to 16.
FULL = set_up({key: 1 for key in range(1, 9)}, [(key, key, [1 + key // 2 % 8]) for key in range(1, 17)])

# A refused call on SMALL by each of its refusals.
REFUSED = (
    [(("member", key, 3), -1) for key in NO_KEYS]
    + [(("member", 50, room), -1) for room in NO_ROOMS]
    + [(("member", 10, 3), -2)]
    + [(("client", key, 0, [10]), -1) for key in NO_KEYS]
    + [(("client", 8, order, [10]), -1) for order in NO_ORDERS]
    + [(("client", 8, 0, [10, key]), -1) for key in NO_KEYS]
    + [(("client", 8, 0, list(range(1, 10))), -1), (("client", 8, 0, [10] * 40), -1)]
    + [(("client", 8, 0, [10, 20, 10]), -3), (("client", 5, 0, [20]), -2), (("client", 8, 0, [10, 99]), -4)]
    + [(("gone", key), -1) for key in NO_KEYS]
    + [(("gone", 99), -4), (("gone", 5), -4), (("gone", 10), -7), (("gone", 30), -7)]
    + [(("drop", key), -1) for key in NO_KEYS]
    + [(("drop", 99), -4), (("drop", 10), -4)]
    + [(("room", key, 3), -1) for key in NO_KEYS]
    + [(("room", 10, room), -1) for room in NO_ROOMS]
    + [(("room", 99, 3), -4), (("room", 5, 3), -4)]
    + [(("order", key, 3), -1) for key in NO_KEYS]
    + [(("order", 5, order), -1) for order in NO_ORDERS]
    + [(("order", 99, 3), -4), (("order", 10, 3), -4)]
    + [(("takers", key, [10]), -1) for key in NO_KEYS]
    + [(("takers", 5, [10, key]), -1) for key in NO_KEYS]
    + [(("takers", 5, list(range(1, 10))), -1), (("takers", 5, [10] * 40), -1)]
    + [(("takers", 5, [20, 10, 20]), -3), (("takers", 5, [10, 99]), -4), (("takers", 99, [10]), -4)]
    + [(("takers", 10, [10]), -4), (("takers", 99, []), -4)]
    + [(("where", key), -1) for key in NO_KEYS]
    + [(("where", 99), -4), (("where", 10), -4)]
    + [(("why", key), -1) for key in NO_KEYS]
    + [(("why", 99), -4), (("why", 10), -4), (("why", 5), -6), (("why", 7), -6)]
    + [(("check", key, [10]), -1) for key in NO_KEYS]
    + [(("check", 5, [10, key]), -1) for key in NO_KEYS]
    + [(("check", 5, list(range(1, 10))), -1), (("check", 5, [10] * 40), -1)]
    + [(("check", 5, [20, 10, 20]), -3), (("check", 5, [10, 99]), -4), (("check", 5, [5]), -4)]
    + [(("check", 99, [10]), -4), (("check", 10, []), -4)]
    + [(("bound", [10, key]), -1) for key in NO_KEYS]
    + [(("bound", list(range(1, 10))), -1), (("bound", [10] * 40), -1)]
    + [(("bound", [20, 10, 20]), -3), (("bound", [10, 99]), -4), (("bound", [5]), -4)]
    + [((name, key), -1) for name in ("without", "roomier", "first") for key in NO_KEYS]
    + [(("without", 99), -4), (("without", 10), -4), (("first", 99), -4), (("first", 10), -4)]
    + [(("roomier", 99), -4), (("roomier", 5), -4)]
    + [(("may", key, 10), -1) for key in NO_KEYS]
    + [(("may", 5, key), -1) for key in NO_KEYS]
    + [(("may", 99, 10), -4), (("may", 10, 10), -4), (("may", 5, 99), -4), (("may", 5, 5), -4)]
    + [(("isplan", [5, key, 7, 10]), -1) for key in NO_KEYS]
    + [(("isplan", [5, 20, key, 10]), -1) for key in NO_KEYS]
    + [(("isplan", [5]), -1), (("isplan", [5, 20, 7]), -1), (("isplan", [5, 20, 7, 10, 5]), -1)]
    + [(("isplan", [5, 20] * 17), -1), (("isplan", [5, 20] * 20), -1), (("isplan", [5] * 33), -1)]
)
# Calls that change nothing when they aren't refused either, on SMALL and on others alike.
CHANGING_NOTHING = [
    ("moved",), ("left",), ("where", 5), ("where", 6), ("why", 6), ("check", 5, [10, 20]), ("check", 6, []),
    ("check", 7, [30, 20, 10]), ("bound", []), ("bound", [30, 10]), ("cover",), ("without", 5), ("without", 6),
    ("without", 7), ("roomier", 10), ("roomier", 20), ("roomier", 30), ("first", 5), ("first", 6), ("first", 7),
    ("may", 5, 10), ("may", 5, 20), ("may", 5, 30), ("may", 6, 10), ("may", 7, 20), ("isplan", []),
    ("isplan", [5, 20, 7, 10]), ("isplan", [7, 10, 5, 20]), ("isplan", [5, 10, 7, 10]), ("members",), ("clients",),
]
# Refused calls on FULL.
REFUSED_FULL = [
    (("member", 9, 0), -9), (("member", 1000000000, 16), -9), (("client", 17, 0, []), -9),
    (("client", 1000000000, 1000000, [1, 2, 3, 4, 5, 6, 7, 8]), -9),
]
# Where several are due on FULL: the one told first in the call's line.
SEVERAL = [
    (("member", 0, 17), -1), (("member", 1, 17), -1), (("member", 9, 17), -1), (("member", 0, 3), -1),
    (("member", 1, 1), -2),
    (("client", 0, 0, [1, 1]), -1), (("client", 1, 1000001, [1]), -1), (("client", 0, 0, [99]), -1),
    (("client", 17, -1, [1]), -1), (("client", 17, 0, [0, 0]), -1), (("client", 17, 0, [1] * 9), -1),
    (("client", 1, 0, [0]), -1), (("client", 17, 0, [99, 0]), -1), (("client", 17, 0, [0]), -1),
    (("client", 1, 0, [1, 1]), -3), (("client", 17, 0, [99, 99]), -3), (("client", 17, 0, [1, 1]), -3),
    (("client", 1, 0, [99, 99]), -3), (("client", 1, 0, [2, 99, 1, 2]), -3),
    (("client", 1, 0, [99]), -2), (("client", 1, 0, [1]), -2), (("client", 17, 0, [99]), -4),
    (("gone", 0), -1), (("drop", 0), -1), (("where", 0), -1),
    (("room", 99, 17), -1), (("room", 0, 17), -1), (("room", 0, 1), -1),
    (("order", 99, 1000001), -1), (("order", 0, -1), -1), (("order", 0, 1), -1),
    (("takers", 0, [1, 1]), -1), (("takers", 0, [99]), -1), (("takers", 99, [1] * 9), -1),
    (("takers", 99, [0, 0]), -1), (("takers", 1, [99, 0]), -1), (("takers", 99, [0]), -1),
    (("takers", 99, [1, 1]), -3), (("takers", 1, [99, 99]), -3), (("takers", 99, [98, 98]), -3),
    (("takers", 99, [98]), -4),
    (("why", 0), -1), (("without", 0), -1), (("roomier", 0), -1), (("first", 0), -1),
    (("check", 0, [1, 1]), -1), (("check", 0, [99]), -1), (("check", 0, [0]), -1), (("check", 0, [1] * 9), -1),
    (("check", 99, [0, 0]), -1), (("check", 99, [1] * 9), -1), (("check", 1, [99, 0]), -1),
    (("check", 99, [99, 99, 0]), -1), (("check", 99, [98, 98]), -3), (("check", 99, [1, 1]), -3),
    (("check", 1, [2, 99, 1, 2]), -3), (("check", 99, [98]), -4), (("check", 99, [1]), -4),
    (("bound", [0, 0]), -1), (("bound", [1] * 9), -1), (("bound", [99, 0]), -1), (("bound", [99, 99]), -3),
    (("bound", [1, 99, 1]), -3), (("bound", [99]), -4),
    (("may", 0, 99), -1), (("may", 99, 0), -1), (("may", 0, 0), -1), (("may", 3, 0), -1), (("may", 99, 98), -4),
    (("may", 3, 99), -4), (("may", 99, 1), -4),
    (("isplan", [0, 99, 1]), -1), (("isplan", [99, 98, 97, 0]), -1), (("isplan", [0] * 34), -1),
]


class Refusals(unittest.TestCase):
    def expect(self, house, call, number, after):
        told = asked(house + [call] + after)
        self.assertEqual(told[len(house)], [number])
        self.assertEqual(told[len(house) + 1:], asked(house + after)[len(house):])

    def test_each_refusal_is_told_and_changes_nothing(self):
        house = SMALL + FREE_MEMBER
        after = revealed([10, 20, 30, 40], [5, 6, 7]) + [("member", 50, 1), ("client", 8, 2, [50])]
        for call, number in REFUSED:
            with self.subTest(call=call):
                self.expect(house, call, number, after)

    def test_what_changes_nothing(self):
        house = SMALL + FREE_MEMBER
        after = revealed([10, 20, 30, 40], [5, 6, 7]) + [("member", 50, 1), ("client", 8, 2, [50])]
        expected = asked(house + after)[len(house):]
        for call in CHANGING_NOTHING:
            with self.subTest(call=call):
                self.assertEqual(asked(house + [call] + after)[len(house) + 1:], expected)
        self.assertEqual(asked(house + CHANGING_NOTHING + after)[len(house) + len(CHANGING_NOTHING):], expected)

    def test_what_changes_nothing_by_chance(self):
        chance = Random(51)
        after = [("members",), ("clients",), ("moved",), ("left",), ("cover",), ("move",), ("members",), ("clients",)]
        for number in range(200):
            rooms, clients = small_house(chance)
            keys, members = [client[0] for client in clients], list(rooms)
            calls = [("cover",), ("bound", members), ("moved",), ("left",), ("members",), ("clients",)]
            calls += [(name, key) for name in ("where", "why", "without", "first") for key in keys]
            calls += [("check", key, members) for key in keys] + [("roomier", key) for key in members]
            calls += [("may", key, member) for key in keys for member in members]
            calls += [("isplan", [key, member]) for key in keys for member in members]
            house = set_up(rooms, clients)
            with self.subTest(rooms=rooms, clients=clients):
                told = asked(house + calls + calls + after)[len(house):]
                self.assertEqual(told[:len(calls)], told[len(calls):2 * len(calls)])
                self.assertEqual(told[2 * len(calls):], asked(house + after)[len(house):])

    def test_a_full_house_refuses_more_and_changes_nothing(self):
        after = [("moved",), ("left",)] + [("drop", key) for key in range(3, 17)]
        after += revealed([1, 2], [1, 2]) + [("gone", key) for key in range(1, 9)]
        for call, number in REFUSED_FULL:
            with self.subTest(call=call):
                self.expect(FULL, call, number, after)

    def test_of_several_the_one_first_in_the_line_is_told(self):
        after = [("moved",), ("left",)]
        for call, number in SEVERAL:
            with self.subTest(call=call):
                self.expect(FULL, call, number, after)

    def test_of_several_on_an_empty_house(self):
        self.assertEqual(asked([("client", 1, 0, [99, 99]), ("client", 1, 0, [99]), ("takers", 1, [99]),
                                ("gone", 1), ("drop", 1), ("room", 1, 1), ("order", 1, 1), ("where", 1),
                                ("takers", 1, []), ("left",), ("moved",)]),
                         [[-3], [-4], [-4], [-4], [-4], [-4], [-4], [-4], [-4], [0], [0]])
        self.assertEqual(asked([("why", 1), ("check", 1, [99, 99]), ("check", 1, [99]), ("check", 1, []),
                                ("bound", [1, 1]), ("bound", [1]), ("without", 1), ("roomier", 1), ("first", 1),
                                ("may", 1, 1), ("may", 1, 0), ("isplan", [1]), ("isplan", [1, 1])]),
                         [[-4], [-3], [-4], [-4], [-3], [-4], [-4], [-4], [-4], [-4], [-1], [-1], [0]])

    def test_what_was_refused_may_be_told_rightly_after(self):
        self.assertEqual(asked([("member", 1, 17), ("member", 1, 16), ("client", 1, 0, [2]),
                                ("client", 1, 0, [1]), ("moved",)]), [[-1], [0], [-4], [0], [1, 1, 1]])


if __name__ == "__main__":
    unittest.main()
