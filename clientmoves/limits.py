"""The ranges of what is handed in, and the refusals' numbers."""

OUT_OF_RANGE = -1
KEY_IS_USED = -2
ONE_TWICE = -3
NOT_THERE = -4
IS_MOVED = -6
IS_A_TAKER = -7
HOUSE_IS_FULL = -9

HIGHEST_KEY = 1000000000
HIGHEST_ROOM = 16
HIGHEST_ORDER = 1000000
MOST_MEMBERS = 8
MOST_CLIENTS = 16
MOST_PLACES = 32


def is_key(number):
    return 1 <= number <= HIGHEST_KEY


def is_room(number):
    return 0 <= number <= HIGHEST_ROOM


def is_order(number):
    return 0 <= number <= HIGHEST_ORDER


def is_list_of_keys(numbers):
    return len(numbers) <= MOST_MEMBERS and all([is_key(number) for number in numbers])


# A client's key and its member's, for each place: so their count is even.
def is_list_of_places(numbers):
    if len(numbers) > MOST_PLACES or len(numbers) % 2 == 1:
        return False
    return all([is_key(number) for number in numbers])


def has_one_twice(numbers):
    return len(set(numbers)) < len(numbers)
