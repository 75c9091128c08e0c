"""Who of a house's clients is moved, and where they go."""


# Clients that have a place each, and the room that the members have besides.
class Plan:
    def __init__(self, rooms, takers):
        self.free = dict(rooms)
        self.takers = takers
        self.places = {}
        self.settled = {}

    # Those who have a place may have to go elsewhere for it, but never lose it:
    # so whether the client gets one doesn't hang on where they are by now.
    def give_place(self, client, wanted):
        comers = self.comers_for(client, wanted)
        for member in comers:
            if self.free[member] > 0:
                self.shift(client, member, comers)
                return True
        return False

    # Each member that can be reached, the nearest first, with the client that
    # would come to it. If none has room, the clients there have nowhere else to go.
    def comers_for(self, client, wanted):
        comers = {}
        for member in wanted:
            comers[member] = client
        reached = list(wanted)
        at = 0
        while at < len(reached):
            self.reach_on(reached[at], comers, reached)
            at += 1
        return comers

    # A full member needn't be an end: whoever is there may go on to another
    # taker, but for those whose place is told already.
    def reach_on(self, member, comers, reached):
        for client in self.places:
            if self.places[client] == member and client not in self.settled:
                for taker in self.takers[client]:
                    if taker not in comers:
                        comers[taker] = client
                        reached.append(taker)

    # Each member on the way passes one client on and gets one, so only the last
    # one's room gets less.
    def shift(self, client, last, comers):
        self.free[last] -= 1
        member = last
        comer = comers[member]
        while comer != client:
            before = self.places[comer]
            self.places[comer] = member
            member = before
            comer = comers[member]
        self.places[client] = member

    # The place that it had is free again while its takers are tried, so one of
    # them is found when that one's turn comes at the latest.
    def settle(self, client):
        before = self.places.pop(client)
        self.free[before] += 1
        for taker in self.takers[client]:
            if self.give_place(client, [taker]):
                break
        self.settled[client] = True


def moved_clients(plan, clients):
    moved = []
    for client in clients:
        if plan.give_place(client, plan.takers[client]):
            moved.append(client)
    return moved


# Of these clients alone, gone through as they are listed.
def moved_of(house, clients):
    return moved_clients(Plan(house.rooms, house.takers), clients)


# The clients moved in order, each with the member that it goes to.
def places_told(house):
    plan = Plan(house.rooms, house.takers)
    moved = moved_clients(plan, house.clients_in_order())
    for client in moved:
        plan.settle(client)
    return [(client, plan.places[client]) for client in moved]


def clients_left(house):
    clients = house.clients_in_order()
    moved = moved_of(house, clients)
    return [client for client in clients if client not in moved]


# Some clients can be placed if none of them is left when they are gone through,
# in whatever order.
def can_go_to(house, moved, client, member):
    takers = dict(house.takers)
    takers[client] = [member]
    return len(moved_clients(Plan(house.rooms, takers), moved)) == len(moved)


# With as many members as clients: the one that each of them goes to.
def is_placing(house, clients, members):
    if any([member not in house.takers[client] for client, member in zip(clients, members)]):
        return False
    return all([members.count(member) <= house.rooms[member] for member in members])
