"""The program's one function: the calls on a house, answered one behind another."""

from clientmoves.changes import add_client, add_member, drop_client, end_member
from clientmoves.changes import change_order, change_room, change_takers, move_clients
from clientmoves.otherwise import tell_first, tell_roomier, tell_without
from clientmoves.proofs import tell_bound, tell_check, tell_cover, tell_why
from clientmoves.state import House
from clientmoves.tells import tell_clients, tell_isplan, tell_left, tell_may, tell_members
from clientmoves.tells import tell_moved, tell_where

MEMBER = 0
CLIENT = 1
GONE = 2
DROP = 3
ROOM = 4
ORDER = 5
TAKERS = 6
MOVE = 7
MOVED = 8
LEFT = 9
WHERE = 10
WHY = 11
CHECK = 12
BOUND = 13
COVER = 14
WITHOUT = 15
ROOMIER = 16
FIRST = 17
MAY = 18
ISPLAN = 19
MEMBERS = 20

# By a call's number: how many whole numbers it has, ahead of its list if it has one.
PLAIN_NUMBERS = (2, 2, 1, 1, 2, 2, 1, 0, 0, 0, 1, 1, 1, 0, 0, 1, 1, 1, 2, 0, 0, 0)
WITH_LIST = (1, 6, 12, 13, 19)


def answers(calls):
    house = House()
    told = []
    at = 0
    while at < len(calls):
        call = calls[at]
        start = at + 1
        at = start + PLAIN_NUMBERS[call]
        numbers = calls[start:at]
        listed = []
        if call in WITH_LIST:
            start = at + 1
            at = start + calls[at]
            listed = calls[start:at]
        answer = answer_to(house, call, numbers, listed)
        told.append(len(answer))
        told.extend(answer)
    return told


def answer_to(house, call, numbers, listed):
    if call <= MOVE:
        return change(house, call, numbers, listed)
    if WHY <= call <= FIRST:
        return tell_reasons(house, call, numbers, listed)
    return tell(house, call, numbers, listed)


def change(house, call, numbers, listed):
    if call == MEMBER:
        return add_member(house, numbers[0], numbers[1])
    if call == CLIENT:
        return add_client(house, numbers[0], numbers[1], listed)
    if call == GONE:
        return end_member(house, numbers[0])
    if call == DROP:
        return drop_client(house, numbers[0])
    if call == ROOM:
        return change_room(house, numbers[0], numbers[1])
    if call == ORDER:
        return change_order(house, numbers[0], numbers[1])
    if call == TAKERS:
        return change_takers(house, numbers[0], listed)
    return move_clients(house)


def tell(house, call, numbers, listed):
    if call == MOVED:
        return tell_moved(house)
    if call == LEFT:
        return tell_left(house)
    if call == WHERE:
        return tell_where(house, numbers[0])
    if call == MAY:
        return tell_may(house, numbers[0], numbers[1])
    if call == ISPLAN:
        return tell_isplan(house, listed)
    if call == MEMBERS:
        return tell_members(house)
    return tell_clients(house)


def tell_reasons(house, call, numbers, listed):
    if call == WHY:
        return tell_why(house, numbers[0])
    if call == CHECK:
        return tell_check(house, numbers[0], listed)
    if call == BOUND:
        return tell_bound(house, listed)
    if call == COVER:
        return tell_cover(house)
    if call == WITHOUT:
        return tell_without(house, numbers[0])
    if call == ROOMIER:
        return tell_roomier(house, numbers[0])
    return tell_first(house, numbers[0])
