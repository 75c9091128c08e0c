"""The calls that tell what would be otherwise: each gives back what it answers."""

from clientmoves.placing import Plan, moved_clients, moved_of
from clientmoves.refusals import refusal_of_client, refusal_of_member


def tell_without(house, key):
    refusal = refusal_of_client(house, key)
    if refusal:
        return refusal
    clients = house.clients_in_order()
    others = [client for client in clients if client != key]
    return told_but(moved_of(house, others), moved_of(house, clients))


def tell_roomier(house, key):
    refusal = refusal_of_member(house, key)
    if refusal:
        return refusal
    clients = house.clients_in_order()
    rooms = dict(house.rooms)
    rooms[key] += 1
    return told_but(moved_clients(Plan(rooms, house.takers), clients), moved_of(house, clients))


def tell_first(house, key):
    refusal = refusal_of_client(house, key)
    if refusal:
        return refusal
    clients = house.clients_in_order()
    others = [client for client in clients if client != key]
    return told_but(moved_of(house, clients), moved_of(house, [key] + others))


def told_but(some, others):
    clients = [client for client in some if client not in others]
    return [len(clients)] + clients
