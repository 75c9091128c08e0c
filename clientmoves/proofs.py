"""The calls about sets of members that prove something: each gives back what it answers."""

from clientmoves.limits import IS_MOVED, OUT_OF_RANGE, is_key
from clientmoves.placing import Plan, moved_clients, moved_of
from clientmoves.refusals import refusal_of_client, refusal_of_members


def tell_why(house, key):
    refusal = refusal_of_client(house, key)
    if refusal:
        return refusal
    plan = Plan(house.rooms, house.takers)
    moved_clients(plan, house.clients_before(key))
    if plan.give_place(key, house.takers[key]):
        return [IS_MOVED]
    # Any set that proves it holds the client's takers and is filled by clients it
    # keeps, so it holds all takers of those placed there too, and so on.
    members = sorted(plan.comers_for(key, house.takers[key]))
    return [len(members)] + members


def tell_check(house, key, members):
    if not is_key(key):
        return [OUT_OF_RANGE]
    refusal = refusal_of_members(house, members) or refusal_of_client(house, key)
    if refusal:
        return refusal
    return [1 if proves(house, members, key) else 0]


def tell_bound(house, members):
    refusal = refusal_of_members(house, members)
    if refusal:
        return refusal
    strangers = [client for client in house.takers if not keeps(house, members, client)]
    return [rooms_together(house, members) + len(strangers)]


# A set whose bound is the number of clients moved keeps all that are left and is
# filled by clients it keeps: so it holds what is reached from the takers of the left.
def tell_cover(house):
    plan = Plan(house.rooms, house.takers)
    clients = house.clients_in_order()
    moved = moved_clients(plan, clients)
    covered = {}
    for client in clients:
        if client not in moved:
            for member in plan.comers_for(client, house.takers[client]):
                covered[member] = True
    return [len(covered)] + sorted(covered)


def keeps(house, members, client):
    return all([taker in members for taker in house.takers[client]])


def rooms_together(house, members):
    return sum([house.rooms[member] for member in members])


def proves(house, members, client):
    if not keeps(house, members, client):
        return False
    moved = moved_of(house, house.clients_before(client))
    kept = [other for other in moved if keeps(house, members, other)]
    return len(kept) == rooms_together(house, members)
