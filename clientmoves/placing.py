"""Who of a house's clients is moved, and where they go."""


# Clients that have a place each, and the room that the members have besides.
class Plan:
    def __init__(self, rooms, takers):
        self.free = dict(rooms)
        self.takers = takers
        self.places = {}
        self.settled = {}

    # Those who have a place may have to go elsewhere for it, but never lose it:
    # so whether the client gets one doesn't hang on where they are by now.
    def give_place(self, client, wanted):
        comers = {}
        for member in wanted:
            comers[member] = client
        reached = list(wanted)
        at = 0
        while at < len(reached) and self.free[reached[at]] == 0:
            self.reach_on(reached[at], comers, reached)
            at += 1
        if at == len(reached):
            return False
        self.shift(client, reached[at], comers)
        return True

    # A full member needn't be an end: whoever is there may go on to another
    # taker, but for those whose place is told already.
    def reach_on(self, member, comers, reached):
        for client in self.places:
            if self.places[client] == member and client not in self.settled:
                for taker in self.takers[client]:
                    if taker not in comers:
                        comers[taker] = client
                        reached.append(taker)

    # Each member on the way passes one client on and gets one, so only the last
    # one's room gets less.
    def shift(self, client, last, comers):
        self.free[last] -= 1
        member = last
        comer = comers[member]
        while comer != client:
            before = self.places[comer]
            self.places[comer] = member
            member = before
            comer = comers[member]
        self.places[client] = member

    # The place that it had is free again while its takers are tried, so one of
    # them is found when that one's turn comes at the latest.
    def settle(self, client):
        before = self.places.pop(client)
        self.free[before] += 1
        for taker in self.takers[client]:
            if self.give_place(client, [taker]):
                break
        self.settled[client] = True


def moved_clients(plan, clients):
    moved = []
    for client in clients:
        if plan.give_place(client, plan.takers[client]):
            moved.append(client)
    return moved


# The clients moved in order, each with the member that it goes to.
def places_told(house):
    plan = Plan(house.rooms, house.takers)
    moved = moved_clients(plan, house.clients_in_order())
    for client in moved:
        plan.settle(client)
    return [(client, plan.places[client]) for client in moved]


def clients_left(house):
    clients = house.clients_in_order()
    moved = moved_clients(Plan(house.rooms, house.takers), clients)
    return [client for client in clients if client not in moved]
