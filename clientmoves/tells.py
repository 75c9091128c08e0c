"""The calls that change nothing: each gives back what it answers."""

from clientmoves.limits import NOT_THERE, OUT_OF_RANGE, is_key
from clientmoves.placing import clients_left, places_told


def tell_moved(house):
    told = places_told(house)
    numbers = [len(told)]
    for client, member in told:
        numbers.append(client)
        numbers.append(member)
    return numbers


def tell_left(house):
    clients = clients_left(house)
    return [len(clients)] + clients


def tell_where(house, key):
    if not is_key(key):
        return [OUT_OF_RANGE]
    if key not in house.orders:
        return [NOT_THERE]
    for client, member in places_told(house):
        if client == key:
            return [member]
    return [0]
