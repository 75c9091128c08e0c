"""What a house holds."""


# Members' keys and clients' keys are apart, so each kind has its own dicts.
class House:
    def __init__(self):
        self.rooms = {}
        self.orders = {}
        self.takers = {}

    def has_members(self, keys):
        return all([key in self.rooms for key in keys])

    def is_taker(self, member):
        return any([member in self.takers[client] for client in self.takers])

    def clients_in_order(self):
        pairs = sorted([(self.orders[client], client) for client in self.orders])
        return [pair[1] for pair in pairs]

    def clients_before(self, client):
        clients = self.clients_in_order()
        return clients[:clients.index(client)]

    def forget_client(self, client):
        self.orders.pop(client)
        self.takers.pop(client)
