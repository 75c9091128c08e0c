"""What the tests share: calls written by name, and a plain search through all placings."""

from itertools import combinations, product

from clientmoves.house import answers

NUMBERS = {
    "member": 0, "client": 1, "gone": 2, "drop": 3, "room": 4, "order": 5, "takers": 6,
    "move": 7, "moved": 8, "left": 9, "where": 10,
}


def written(calls):
    """The calls, each a tuple of its name and its arguments, as one list of numbers."""
    numbers = []
    for call in calls:
        numbers.append(NUMBERS[call[0]])
        for argument in call[1:]:
            if isinstance(argument, list):
                numbers.append(len(argument))
                numbers.extend(argument)
            else:
                numbers.append(argument)
    return numbers


def asked(calls):
    """The answer of each call, a list of numbers each."""
    told = answers(written(calls))
    split = []
    at = 0
    while at < len(told):
        split.append(told[at + 1:at + 1 + told[at]])
        assert len(split[-1]) == told[at] > 0, told
        at += 1 + told[at]
    assert len(split) == len(calls), (len(split), len(calls))
    return split


def asked_last(calls):
    return asked(calls)[-1]


def set_up(rooms, clients):
    """The calls for a house: rooms by member; clients as (key, order, takers)."""
    return ([("member", key, room) for key, room in rooms.items()]
            + [("client", key, order, list(takers)) for key, order, takers in clients])


def in_order(clients):
    return sorted(clients, key=lambda client: (client[1], client[0]))


def placings(rooms, clients):
    """Every placing of these clients: a tuple of members, one for each client."""
    return [places for places in product(*[takers for key, order, takers in clients])
            if all(places.count(member) <= room for member, room in rooms.items())]


def plain_moved(rooms, clients):
    """The clients moved, in order, by the document's own words."""
    moved = []
    for client in in_order(clients):
        if placings(rooms, moved + [client]):
            moved.append(client)
    return moved


def plain_places(rooms, clients):
    """The clients moved in order, each as (key, member), by the document's own words."""
    moved = plain_moved(rooms, clients)
    open_placings = placings(rooms, moved)
    for at, (key, order, takers) in enumerate(moved):
        best = min(takers.index(places[at]) for places in open_placings)
        open_placings = [places for places in open_placings if places[at] == takers[best]]
    assert len(open_placings) == 1
    return [(client[0], member) for client, member in zip(moved, open_placings[0])]


def plain_left(rooms, clients):
    moved = plain_moved(rooms, clients)
    return [client[0] for client in in_order(clients) if client not in moved]


def most_placed(rooms, clients):
    """How many clients can be placed at the most, whoever they are."""
    return max(count for count in range(len(clients) + 1)
               for some in combinations(clients, count) if placings(rooms, list(some)))


def counted_places(rooms, clients):
    """As plain_places, but by counting: some clients can be placed if no set of members has less
    room than it has clients of those that would go nowhere else. For houses that are too large for
    a search through all placings."""
    sets = [set(some) for count in range(len(rooms) + 1) for some in combinations(rooms, count)]

    def placeable(lists):
        return all(sum(some.issuperset(takers) for takers in lists) <= sum(rooms[key] for key in some)
                   for some in sets)

    moved, lists = [], []
    for key, order, takers in in_order(clients):
        if placeable(lists + [takers]):
            moved.append(key)
            lists.append(takers)
    for at, takers in enumerate(lists):
        lists[at] = next([taker] for taker in takers if placeable(lists[:at] + [[taker]] + lists[at + 1:]))
    return [(key, takers[0]) for key, takers in zip(moved, lists)]


def small_house(chance, most_clients=5):
    """Rooms and clients of a small house, drawn from `chance`, a random.Random."""
    members = chance.sample([3, 1, 7, 1000000000], chance.randint(0, 4))
    rooms = {key: chance.choice([0, 1, 1, 1, 2]) for key in members}
    clients = []
    for key in chance.sample([1, 2, 3, 5, 8, 1000000000], chance.randint(0, most_clients)):
        takers = chance.sample(members, chance.randint(0, len(members)))
        clients.append((key, chance.choice([0, 1, 1, 2, 1000000]), takers))
    return rooms, clients


def revealed(members, clients):
    """Calls whose answers tell all of a house with these members and clients: who is moved and
    left, each order and room, and of each client's takers the one it likes better of each two."""
    calls = [("moved",), ("left",)]
    calls += [("where", key) for key in clients]
    calls += [("order", key, 0) for key in clients]
    calls += [("room", key, 0) for key in members]
    for pair in list(combinations(members, 2)) + [(key,) for key in members]:
        calls += [("room", key, 16) for key in pair]
        calls += [("moved",), ("left",)]
        calls += [("room", key, 0) for key in pair]
    return calls
