"""Each call at ordinary inputs, and the form of what is answered."""

import unittest

from clientmoves.house import answers
from tests.plain import asked, asked_last, set_up

HOUSE = set_up({10: 1, 20: 2, 30: 0}, [
    (5, 7, [10, 20]), (4, 8, [10]), (6, 9, [30, 20]), (3, 9, [20, 10, 30]), (9, 1, []),
])


class Form(unittest.TestCase):
    def test_numbers_of_the_calls_and_counts_of_the_answers(self):
        self.assertEqual(answers([0, 10, 1]), [1, 0])
        self.assertEqual(answers([1, 5, 0, 0]), [1, 0])
        self.assertEqual(answers([0, 10, 4, 2, 10]), [1, 0, 1, 4])
        self.assertEqual(answers([1, 5, 0, 0, 3, 5, 9]), [1, 0, 1, 0, 1, 0])
        self.assertEqual(answers([0, 10, 4, 4, 10, 3, 4, 10, 0]), [1, 0, 1, 4, 1, 3])
        self.assertEqual(answers([1, 5, 8, 0, 5, 5, 3, 5, 5, 0]), [1, 0, 1, 8, 1, 3])
        self.assertEqual(answers([0, 10, 1, 1, 5, 0, 0, 6, 5, 1, 10, 10, 5]), [1, 0, 1, 0, 1, 0, 1, 10])
        self.assertEqual(answers([0, 10, 1, 1, 5, 0, 1, 10, 1, 6, 0, 1, 10, 7]),
                         [1, 0, 1, 0, 1, 0, 2, 1, 1])
        self.assertEqual(answers([0, 10, 2, 1, 6, 0, 1, 10, 1, 5, 0, 1, 10, 8]),
                         [1, 0, 1, 0, 1, 0, 5, 2, 5, 10, 6, 10])
        self.assertEqual(answers([0, 10, 0, 1, 6, 0, 1, 10, 1, 5, 0, 1, 10, 9]),
                         [1, 0, 1, 0, 1, 0, 3, 2, 5, 6])
        self.assertEqual(answers([0, 10, 1, 1, 5, 0, 1, 10, 10, 5]), [1, 0, 1, 0, 1, 10])

    def test_numbers_of_the_calls_that_tell_reasons_and_plans(self):
        house = [0, 20, 1, 0, 10, 1, 1, 6, 1, 1, 10, 1, 5, 0, 2, 10, 20, 1, 7, 2, 2, 20, 10]
        for calls, told in (
            ([11, 7], [3, 2, 10, 20]),
            ([11, 5], [1, -6]),
            ([12, 7, 2, 20, 10], [1, 1]),
            ([12, 7, 0], [1, 0]),
            ([13, 0], [1, 3]),
            ([13, 1, 10], [1, 3]),
            ([13, 2, 20, 10], [1, 2]),
            ([14], [3, 2, 10, 20]),
            ([15, 6], [2, 1, 7]),
            ([15, 7], [1, 0]),
            ([16, 10], [2, 1, 7]),
            ([17, 7], [2, 1, 6]),
            ([17, 5], [1, 0]),
            ([18, 5, 20], [1, 1]),
            ([18, 5, 10], [1, 0]),
            ([19, 4, 5, 20, 6, 10], [1, 1]),
            ([19, 4, 5, 10, 6, 20], [1, 0]),
            ([19, 0], [1, 0]),
            ([20], [5, 2, 10, 1, 20, 1]),
            ([21], [15, 3, 5, 0, 2, 10, 20, 6, 1, 1, 10, 7, 2, 2, 20, 10]),
        ):
            with self.subTest(calls=calls):
                self.assertEqual(answers(house + calls + [20])[10:], told + [5, 2, 10, 1, 20, 1])

    def test_a_refusal_is_one_number_alone(self):
        self.assertEqual(answers([0, 0, 0, 3, 4, 10, 4]), [1, -1, 1, -4, 1, -4])

    def test_what_is_given_back_is_a_list_of_whole_numbers(self):
        told = answers([0, 10, 1, 1, 5, 0, 1, 10, 1, 6, 0, 1, 10, 8, 9, 10, 5, 11, 6, 12, 6, 1, 10, 12, 6, 0, 13, 0, 14,
                        15, 5, 16, 10, 17, 6, 18, 5, 10, 18, 6, 10, 19, 2, 5, 10, 19, 0, 20, 21, 7, 3, 6, 2, 10])
        self.assertIs(type(told), list)
        self.assertEqual({type(number) for number in told}, {int})

    def test_lists_are_read_to_their_end_when_they_are_refused(self):
        for count in (9, 40):
            self.assertEqual(answers([1, 5, 0, count] + [7] * count + [9]), [1, -1, 1, 0])
            self.assertEqual(answers([6, 5, count] + [7] * count + [9]), [1, -1, 1, 0])
            self.assertEqual(answers([12, 5, count] + [7] * count + [9]), [1, -1, 1, 0])
            self.assertEqual(answers([13, count] + [7] * count + [9]), [1, -1, 1, 0])
        for count in (33, 34, 40):
            self.assertEqual(answers([19, count] + [7] * count + [9]), [1, -1, 1, 0])


class Changes(unittest.TestCase):
    def test_member_and_client_are_there_from_then_on(self):
        self.assertEqual(asked([
            ("client", 1, 0, []), ("left",), ("member", 1, 1), ("client", 2, 0, [1]), ("moved",),
            ("left",), ("member", 2, 3), ("room", 2, 3),
        ]), [[0], [1, 1], [0], [0], [1, 2, 1], [1, 1], [0], [3]])

    def test_gone_answers_the_room_and_the_key_is_free_again(self):
        self.assertEqual(asked([
            ("member", 1, 5), ("member", 2, 6), ("gone", 1), ("room", 1, 0), ("room", 2, 0),
            ("member", 1, 7), ("gone", 1), ("gone", 1),
        ]), [[0], [0], [5], [-4], [6], [0], [7], [-4]])

    def test_gone_goes_once_no_client_has_the_member_as_a_taker(self):
        house = set_up({1: 1, 2: 0}, [(5, 0, [2, 1])])
        self.assertEqual(asked(house + [("gone", 2), ("takers", 5, [1]), ("gone", 2), ("gone", 1)])[3:],
                         [[-7], [0], [0], [-7]])
        self.assertEqual(asked(house + [("drop", 5), ("gone", 1), ("gone", 2)])[3:], [[0], [1], [0]])
        self.assertEqual(asked(house + [("move",), ("gone", 1)])[3:], [[1, 0], [0]])

    def test_drop_takes_the_one_client_away(self):
        self.assertEqual(asked(HOUSE + [("drop", 5), ("moved",), ("left",), ("where", 5), ("drop", 5)])[8:],
                         [[0], [3, 4, 10, 3, 20, 6, 20], [1, 9], [-4], [-4]])

    def test_a_dropped_client_may_come_anew(self):
        self.assertEqual(asked(HOUSE + [("drop", 5), ("client", 5, 3, [20]), ("order", 5, 4), ("where", 5)])[8:],
                         [[0], [0], [3], [20]])

    def test_room_answers_the_one_before(self):
        self.assertEqual(asked(HOUSE + [("room", 30, 1), ("room", 30, 2), ("moved",), ("room", 10, 0)])[8:],
                         [[0], [1], [4, 5, 20, 4, 10, 3, 20, 6, 30], [1]])

    def test_order_answers_the_one_before(self):
        self.assertEqual(asked(HOUSE + [("order", 4, 10), ("order", 4, 6), ("moved",)])[8:],
                         [[8], [10], [3, 4, 10, 5, 20, 3, 20]])

    def test_takers_are_these_from_then_on(self):
        self.assertEqual(asked(HOUSE + [("takers", 5, [20, 10]), ("moved",), ("takers", 5, []), ("left",),
                                        ("takers", 9, [10]), ("moved",)])[8:],
                         [[0], [3, 5, 20, 4, 10, 3, 20], [0], [2, 9, 5], [0],
                          [3, 9, 10, 3, 20, 6, 20]])

    def test_takers_that_come_later_are_taken_as_they_are_told(self):
        self.assertEqual(asked([("member", 1, 1), ("member", 2, 1), ("client", 5, 0, [1, 2]), ("where", 5),
                                ("takers", 5, [2, 1]), ("where", 5)])[3:], [[1], [0], [2]])


class Tells(unittest.TestCase):
    def test_moved(self):
        self.assertEqual(asked_last(HOUSE + [("moved",)]), [3, 5, 20, 4, 10, 3, 20])

    def test_left(self):
        self.assertEqual(asked_last(HOUSE + [("left",)]), [2, 9, 6])

    def test_where(self):
        self.assertEqual(asked(HOUSE + [("where", key) for key in (3, 4, 5, 6, 9)])[8:],
                         [[20], [10], [20], [0], [0]])

    def test_they_change_nothing(self):
        tells = [("moved",), ("left",), ("where", 3), ("where", 6)]
        told = asked(HOUSE + tells + tells)[8:]
        self.assertEqual(told[:4], told[4:])


class Move(unittest.TestCase):
    def test_answers_how_many_are_moved_and_left(self):
        self.assertEqual(asked_last(HOUSE + [("move",)]), [3, 2])

    def test_rooms_are_less_and_the_moved_are_gone(self):
        self.assertEqual(asked(HOUSE + [
            ("move",), ("moved",), ("left",), ("where", 5), ("drop", 4), ("order", 3, 0),
            ("room", 10, 0), ("room", 20, 0), ("room", 30, 0),
        ])[9:], [[0], [2, 9, 6], [-4], [-4], [-4], [0], [0], [0]])

    def test_room_that_nobody_took_is_kept(self):
        house = set_up({1: 16, 2: 5}, [(5, 0, [1]), (6, 0, [1]), (7, 0, [2, 1])])
        self.assertEqual(asked(house + [("move",), ("room", 1, 0), ("room", 2, 0)])[5:], [[3, 0], [14], [4]])

    def test_the_left_stay_as_they_were(self):
        self.assertEqual(asked(HOUSE + [
            ("move",), ("room", 20, 1), ("moved",), ("room", 30, 1), ("moved",), ("order", 6, 0),
            ("order", 9, 0), ("takers", 9, [20]), ("move",), ("move",), ("room", 20, 0), ("room", 30, 0),
        ])[9:], [[0], [1, 6, 20], [0], [1, 6, 30], [9], [1], [0], [2, 0], [0, 0], [0], [0]])

    def test_a_moved_client_s_key_is_free_again(self):
        self.assertEqual(asked(HOUSE + [("move",), ("client", 5, 2, [20]), ("left",)])[9:], [[0], [3, 9, 5, 6]])


if __name__ == "__main__":
    unittest.main()
