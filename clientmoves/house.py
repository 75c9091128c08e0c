"""The program's one function: the calls on a house, answered one behind another."""

from clientmoves.changes import add_client, add_member, drop_client, end_member
from clientmoves.changes import change_order, change_room, change_takers, move_clients
from clientmoves.state import House
from clientmoves.tells import tell_left, tell_moved, tell_where

MEMBER = 0
CLIENT = 1
GONE = 2
DROP = 3
ROOM = 4
ORDER = 5
TAKERS = 6
MOVE = 7
MOVED = 8
LEFT = 9

# By a call's number: how many whole numbers it has, ahead of its list if it has one.
PLAIN_NUMBERS = (2, 2, 1, 1, 2, 2, 1, 0, 0, 0, 1)
WITH_LIST = (1, 6)


def answers(calls):
    house = House()
    told = []
    at = 0
    while at < len(calls):
        call = calls[at]
        start = at + 1
        at = start + PLAIN_NUMBERS[call]
        numbers = calls[start:at]
        listed = []
        if call in WITH_LIST:
            start = at + 1
            at = start + calls[at]
            listed = calls[start:at]
        answer = answer_to(house, call, numbers, listed)
        told.append(len(answer))
        told.extend(answer)
    return told


def answer_to(house, call, numbers, listed):
    if call <= MOVE:
        return change(house, call, numbers, listed)
    return tell(house, call, numbers)


def change(house, call, numbers, listed):
    if call == MEMBER:
        return add_member(house, numbers[0], numbers[1])
    if call == CLIENT:
        return add_client(house, numbers[0], numbers[1], listed)
    if call == GONE:
        return end_member(house, numbers[0])
    if call == DROP:
        return drop_client(house, numbers[0])
    if call == ROOM:
        return change_room(house, numbers[0], numbers[1])
    if call == ORDER:
        return change_order(house, numbers[0], numbers[1])
    if call == TAKERS:
        return change_takers(house, numbers[0], listed)
    return move_clients(house)


def tell(house, call, numbers):
    if call == MOVED:
        return tell_moved(house)
    if call == LEFT:
        return tell_left(house)
    return tell_where(house, numbers[0])
