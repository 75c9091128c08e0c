"""The calls that change a house: each gives back what it answers."""

from clientmoves.limits import HOUSE_IS_FULL, IS_A_TAKER, KEY_IS_USED, NOT_THERE, ONE_TWICE, OUT_OF_RANGE
from clientmoves.limits import MOST_CLIENTS, MOST_MEMBERS
from clientmoves.limits import has_one_twice, is_key, is_list_of_keys, is_order, is_room
from clientmoves.placing import places_told
from clientmoves.refusals import refusal_of_client, refusal_of_member


def add_member(house, key, room):
    if not is_key(key) or not is_room(room):
        return [OUT_OF_RANGE]
    if key in house.rooms:
        return [KEY_IS_USED]
    if len(house.rooms) == MOST_MEMBERS:
        return [HOUSE_IS_FULL]
    house.rooms[key] = room
    return [0]


def add_client(house, key, order, takers):
    if not is_key(key) or not is_order(order) or not is_list_of_keys(takers):
        return [OUT_OF_RANGE]
    if has_one_twice(takers):
        return [ONE_TWICE]
    if key in house.orders:
        return [KEY_IS_USED]
    if not house.has_members(takers):
        return [NOT_THERE]
    if len(house.orders) == MOST_CLIENTS:
        return [HOUSE_IS_FULL]
    house.orders[key] = order
    house.takers[key] = takers
    return [0]


def end_member(house, key):
    refusal = refusal_of_member(house, key)
    if refusal:
        return refusal
    if house.is_taker(key):
        return [IS_A_TAKER]
    return [house.rooms.pop(key)]


def drop_client(house, key):
    refusal = refusal_of_client(house, key)
    if refusal:
        return refusal
    house.forget_client(key)
    return [0]


def change_room(house, key, room):
    if not is_key(key) or not is_room(room):
        return [OUT_OF_RANGE]
    if key not in house.rooms:
        return [NOT_THERE]
    before = house.rooms[key]
    house.rooms[key] = room
    return [before]


def change_order(house, key, order):
    if not is_key(key) or not is_order(order):
        return [OUT_OF_RANGE]
    if key not in house.orders:
        return [NOT_THERE]
    before = house.orders[key]
    house.orders[key] = order
    return [before]


def change_takers(house, key, takers):
    if not is_key(key) or not is_list_of_keys(takers):
        return [OUT_OF_RANGE]
    if has_one_twice(takers):
        return [ONE_TWICE]
    if key not in house.orders or not house.has_members(takers):
        return [NOT_THERE]
    house.takers[key] = takers
    return [0]


def move_clients(house):
    told = places_told(house)
    for client, member in told:
        house.rooms[member] -= 1
        house.forget_client(client)
    return [len(told), len(house.orders)]
