"""What the tests share: calls written by name, and plain searches through all placings and all sets."""

from itertools import combinations, product

from clientmoves.house import answers

NUMBERS = {
    "member": 0, "client": 1, "gone": 2, "drop": 3, "room": 4, "order": 5, "takers": 6,
    "move": 7, "moved": 8, "left": 9, "where": 10, "why": 11, "check": 12, "bound": 13, "cover": 14,
    "without": 15, "roomier": 16, "first": 17, "may": 18, "isplan": 19, "members": 20, "clients": 21,
}


def written(calls):
    """The calls, each a tuple of its name and its arguments, as one list of numbers."""
    numbers = []
    for call in calls:
        numbers.append(NUMBERS[call[0]])
        for argument in call[1:]:
            if isinstance(argument, list):
                numbers.append(len(argument))
                numbers.extend(argument)
            else:
                numbers.append(argument)
    return numbers


def asked(calls):
    """The answer of each call, a list of numbers each."""
    told = answers(written(calls))
    split = []
    at = 0
    while at < len(told):
        split.append(told[at + 1:at + 1 + told[at]])
        assert len(split[-1]) == told[at] > 0, told
        at += 1 + told[at]
    assert len(split) == len(calls), (len(split), len(calls))
    return split


def asked_last(calls):
    return asked(calls)[-1]


def answers_to(house, calls):
    """The answer of each of these calls on a house that other calls have set up."""
    return asked(house + calls)[len(house):]


def set_up(rooms, clients):
    """The calls for a house: rooms by member; clients as (key, order, takers)."""
    return ([("member", key, room) for key, room in rooms.items()]
            + [("client", key, order, list(takers)) for key, order, takers in clients])


# A house of which 5 goes to 20, 4 to 10 and 3 to 20; 9 and 6 are left.
HOUSE = set_up({30: 0, 10: 1, 20: 2}, [
    (5, 7, [10, 20]), (4, 8, [10]), (6, 9, [30, 20]), (3, 9, [20, 10, 30]), (9, 1, []),
])


def in_order(clients):
    return sorted(clients, key=lambda client: (client[1], client[0]))


def placings(rooms, clients):
    """Every placing of these clients: a tuple of members, one for each client."""
    return [places for places in product(*[takers for key, order, takers in clients])
            if all(places.count(member) <= room for member, room in rooms.items())]


def plain_moved(rooms, clients):
    """The clients moved, in order, by the document's own words."""
    moved = []
    for client in in_order(clients):
        if placings(rooms, moved + [client]):
            moved.append(client)
    return moved


def plain_places(rooms, clients):
    """The clients moved in order, each as (key, member), by the document's own words."""
    moved = plain_moved(rooms, clients)
    open_placings = placings(rooms, moved)
    for at, (key, order, takers) in enumerate(moved):
        best = min(takers.index(places[at]) for places in open_placings)
        open_placings = [places for places in open_placings if places[at] == takers[best]]
    assert len(open_placings) == 1
    return [(client[0], member) for client, member in zip(moved, open_placings[0])]


def plain_left(rooms, clients):
    moved = plain_moved(rooms, clients)
    return [client[0] for client in in_order(clients) if client not in moved]


def most_placed(rooms, clients):
    """How many clients can be placed at the most, whoever they are."""
    return max(count for count in range(len(clients) + 1)
               for some in combinations(clients, count) if placings(rooms, list(some)))


def sets_of(members):
    """Every set of these members, a tuple each."""
    return [some for count in range(len(members) + 1) for some in combinations(members, count)]


def can_be_placed(rooms, lists):
    """Whether clients with these lists of takers can be placed, by counting: no set of members has
    less room than it has clients of those that would go nowhere else."""
    return all(sum(set(takers) <= set(some) for takers in lists) <= sum(rooms[key] for key in some)
               for some in sets_of(rooms))


def counted_moved(rooms, clients):
    """As plain_moved, but by counting: for houses that are too large for a search through all placings."""
    moved = []
    for client in in_order(clients):
        if can_be_placed(rooms, [takers for key, order, takers in moved + [client]]):
            moved.append(client)
    return moved


def counted_places(rooms, clients):
    """As plain_places, but by counting."""
    moved = counted_moved(rooms, clients)
    lists = [takers for key, order, takers in moved]
    for at, takers in enumerate(lists):
        lists[at] = next([taker] for taker in takers if can_be_placed(rooms, lists[:at] + [[taker]] + lists[at + 1:]))
    return [(client[0], takers[0]) for client, takers in zip(moved, lists)]


def counted_may(rooms, clients, key, member):
    """As plain_may, but by counting."""
    moved = counted_moved(rooms, clients)
    lists = [[member] if client[0] == key else client[2] for client in moved]
    return any(client[0] == key and member in client[2] for client in moved) and can_be_placed(rooms, lists)


def keeps(members, client):
    return set(client[2]) <= set(members)


def proving_sets(rooms, clients, moved, client):
    """Every set of members that proves that the client can't be moved besides those before it."""
    before = in_order(clients)[:in_order(clients).index(client)]
    return [some for some in sets_of(rooms) if keeps(some, client)
            and sum(keeps(some, other) for other in moved if other in before) == sum(rooms[key] for key in some)]


def plain_bound(rooms, clients, members):
    return sum(rooms[key] for key in members) + sum(not keeps(members, client) for client in clients)


def covering_sets(rooms, clients, moved):
    """Every set of members whose bound is the number of clients moved."""
    return [some for some in sets_of(rooms) if plain_bound(rooms, clients, some) == len(moved)]


def least(sets):
    """The one of these sets that is in all of them, rising."""
    (told,) = [some for some in sets if all(set(some) <= set(other) for other in sets)]
    return sorted(told)


def keys_but(some, others):
    keys = [client[0] for client in some if client[0] not in [other[0] for other in others]]
    return [len(keys)] + keys


def plain_without(rooms, clients, key, moved_by=plain_moved):
    others = [client for client in clients if client[0] != key]
    return keys_but(moved_by(rooms, others), moved_by(rooms, clients))


def plain_roomier(rooms, clients, key, moved_by=plain_moved):
    return keys_but(moved_by({**rooms, key: rooms[key] + 1}, clients), moved_by(rooms, clients))


def plain_first(rooms, clients, key, moved_by=plain_moved):
    changed = [(client[0], -1, client[2]) if client[0] == key else client for client in clients]
    return keys_but(moved_by(rooms, clients), moved_by(rooms, changed))


def plain_may(rooms, clients, key, member):
    moved = plain_moved(rooms, clients)
    return any(client[0] == key and places[at] == member
               for places in placings(rooms, moved) for at, client in enumerate(moved))


def small_house(chance, most_clients=5):
    """Rooms and clients of a small house, drawn from `chance`, a random.Random."""
    members = chance.sample([3, 1, 7, 1000000000], chance.randint(0, 4))
    rooms = {key: chance.choice([0, 1, 1, 1, 2]) for key in members}
    clients = []
    for key in chance.sample([1, 2, 3, 5, 8, 1000000000], chance.randint(0, most_clients)):
        takers = chance.sample(members, chance.randint(0, len(members)))
        clients.append((key, chance.choice([0, 1, 1, 2, 1000000]), takers))
    return rooms, clients


def full_house(chance):
    """Rooms and clients of a house with 8 members and 16 clients."""
    members = chance.sample(range(1, 1000), 8)
    rooms = {key: chance.choice([0, 1, 1, 2, 2, 3]) for key in members}
    return rooms, [(key, chance.randint(0, 9), chance.sample(members, chance.choice([0, 1, 1, 2, 2, 3, 8])))
                   for key in chance.sample(range(1, 1000), 16)]


def revealed(members, clients):
    """Calls whose answers tell all of a house with these members and clients: what it holds, who is
    moved and left, each order and room, and of each client's takers the one it likes better of each two."""
    calls = [("members",), ("clients",), ("moved",), ("left",)]
    calls += [("where", key) for key in clients]
    calls += [("order", key, 0) for key in clients]
    calls += [("room", key, 0) for key in members]
    for pair in list(combinations(members, 2)) + [(key,) for key in members]:
        calls += [("room", key, 16) for key in pair]
        calls += [("moved",), ("left",)]
        calls += [("room", key, 0) for key in pair]
    return calls
