"""The calls that tell what is and who goes where: each gives back what it answers."""

from clientmoves.limits import NOT_THERE, OUT_OF_RANGE, is_key, is_list_of_places
from clientmoves.placing import can_go_to, clients_left, is_placing, moved_of, places_told
from clientmoves.refusals import refusal_of_client


def tell_moved(house):
    told = places_told(house)
    numbers = [len(told)]
    for client, member in told:
        numbers.append(client)
        numbers.append(member)
    return numbers


def tell_left(house):
    clients = clients_left(house)
    return [len(clients)] + clients


def tell_where(house, key):
    refusal = refusal_of_client(house, key)
    if refusal:
        return refusal
    for client, member in places_told(house):
        if client == key:
            return [member]
    return [0]


def tell_may(house, key, member):
    if not is_key(key) or not is_key(member):
        return [OUT_OF_RANGE]
    if key not in house.orders or member not in house.rooms:
        return [NOT_THERE]
    if member not in house.takers[key]:
        return [0]
    moved = moved_of(house, house.clients_in_order())
    return [1 if key in moved and can_go_to(house, moved, key, member) else 0]


def tell_isplan(house, places):
    if not is_list_of_places(places):
        return [OUT_OF_RANGE]
    clients = places[0::2]
    if clients != moved_of(house, house.clients_in_order()):
        return [0]
    return [1 if is_placing(house, clients, places[1::2]) else 0]


def tell_members(house):
    numbers = [len(house.rooms)]
    for member in sorted(house.rooms):
        numbers.append(member)
        numbers.append(house.rooms[member])
    return numbers


def tell_clients(house):
    numbers = [len(house.orders)]
    for client in house.clients_in_order():
        takers = house.takers[client]
        numbers.extend([client, house.orders[client], len(takers)])
        numbers.extend(takers)
    return numbers
