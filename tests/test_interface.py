"""What answers does with what is handed in, and how long it takes."""

import time
import unittest
from random import Random

from clientmoves.house import answers
from tests.plain import set_up, small_house, written

CALLS = written(set_up({1: 1, 2: 1}, [(1, 0, [2, 1]), (2, 1, [2]), (3, 1, [])])
                + [("moved",), ("takers", 3, [1]), ("client", 4, 0, [1] * 40), ("left",), ("move",),
                   ("room", 1, 4), ("drop", 3), ("gone", 2), ("where", 3)]
                + set_up({8: 1, 9: 1}, [(7, 0, [9, 8]), (6, 1, [9]), (5, 2, [8, 9]), (8, 3, [1])])
                + [("why", 5), ("check", 5, [9, 8]), ("bound", [9, 1]), ("cover",), ("without", 7), ("roomier", 8),
                   ("first", 5), ("may", 7, 9), ("isplan", [7, 8, 6, 9, 8, 1]), ("isplan", [7] * 40), ("members",),
                   ("clients",)])


class Watched(list):
    """A list that tells of every change, one that is taken back too."""

    def refuse(self, *arguments, **named):
        raise AssertionError("what was handed in was changed")

    append = extend = insert = remove = pop = clear = sort = reverse = refuse
    __setitem__ = __delitem__ = __iadd__ = __imul__ = refuse


class HandedIn(unittest.TestCase):
    def test_stays_as_it_was(self):
        calls = list(CALLS)
        answers(calls)
        self.assertEqual(calls, CALLS)

    def test_is_not_changed_for_a_while_either(self):
        self.assertEqual(answers(Watched(CALLS)), answers(list(CALLS)))

    def test_nothing_is_kept_from_one_time_to_the_next(self):
        calls = list(CALLS)
        first = answers(calls)
        self.assertEqual(answers([8, 9, 7, 2, 1, 3, 3]), [1, 0, 1, 0, 2, 0, 0, 1, -4, 1, -4])
        self.assertEqual(answers(calls), first)
        first.append(99)
        self.assertEqual(answers(calls), first[:-1])

    def test_the_same_for_many_houses(self):
        chance = Random(6)
        for number in range(200):
            rooms, clients = small_house(chance)
            more = [("moved",), ("left",), ("cover",), ("bound", list(rooms)), ("members",), ("clients",)]
            more += [(name, client[0]) for client in clients for name in ("why", "without", "first")]
            more += [("check", client[0], client[2]) for client in clients] + [("roomier", key) for key in rooms]
            more += [("may", client[0], key) for client in clients for key in client[2]]
            more += [("isplan", [client[0], key]) for client in clients for key in client[2]]
            calls = written(set_up(rooms, clients) + more + [("move",), ("left",)])
            kept = list(calls)
            self.assertEqual(answers(calls), answers(calls))
            self.assertEqual(calls, kept)


class FullHouses(unittest.TestCase):
    def quick(self, house, asked):
        calls = house + asked * ((400 - len(house)) // len(asked))
        started = time.perf_counter()
        answers(written(calls))
        self.assertLess(time.perf_counter() - started, 4)

    def test_400_calls_where_each_has_each_taker(self):
        keys = list(range(1, 9))
        for room in (1, 2, 16):
            house = set_up({key: room for key in keys}, [(key, 0, keys) for key in range(1, 17)])
            self.quick(house, [("moved",)])
            self.quick(house, [("where", 16)])
            self.quick(house, [("left",)])

    def test_400_calls_where_the_last_ones_push_all_along(self):
        keys = list(range(1, 9))
        clients = [(key, 0, keys) for key in range(1, 9)]
        clients += [(8 + key, 1, keys[:key]) for key in range(1, 9)]
        house = set_up({key: 2 for key in keys}, clients)
        self.quick(house, [("moved",), ("left",), ("where", 1), ("where", 16)])

    def test_400_calls_of_each_kind_that_changes_nothing(self):
        keys = list(range(1, 9))
        plan = [number for key in range(1, 17) for number in (key, (key + 1) // 2)]
        each = [
            ("moved",), ("left",), ("where", 16), ("why", 16), ("check", 16, keys), ("bound", keys), ("cover",),
            ("without", 1), ("roomier", 8), ("first", 16), ("may", 1, 8), ("isplan", plan), ("members",), ("clients",),
        ]
        for room in (1, 2, 16):
            pushing = [(key, 0, keys) for key in range(1, 9)] + [(8 + key, 1, keys[:key]) for key in range(1, 9)]
            for clients in ([(key, 0, keys) for key in range(1, 17)], pushing):
                house = set_up({key: room for key in keys}, clients)
                self.quick(house, each)
                for call in each:
                    self.quick(house, [call])

    def test_400_calls_by_chance(self):
        chance = Random(7)
        for number in range(5):
            keys = list(range(1, 9))
            clients = [(key, 0, chance.sample(keys, 8)) for key in range(1, 17)]
            house = set_up({key: chance.choice([1, 2, 3]) for key in keys}, clients)
            self.quick(house, [("moved",), ("left",), ("where", 16), ("order", 1, 3), ("room", 8, 2)])


if __name__ == "__main__":
    unittest.main()
