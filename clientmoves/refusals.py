"""The refusals that many calls share: each gives back what is answered, empty if nothing is refused."""

from clientmoves.limits import NOT_THERE, ONE_TWICE, OUT_OF_RANGE, has_one_twice, is_key, is_list_of_keys


def refusal_of_member(house, key):
    if not is_key(key):
        return [OUT_OF_RANGE]
    if key not in house.rooms:
        return [NOT_THERE]
    return []


def refusal_of_client(house, key):
    if not is_key(key):
        return [OUT_OF_RANGE]
    if key not in house.orders:
        return [NOT_THERE]
    return []


def refusal_of_members(house, keys):
    if not is_list_of_keys(keys):
        return [OUT_OF_RANGE]
    if has_one_twice(keys):
        return [ONE_TWICE]
    if not house.has_members(keys):
        return [NOT_THERE]
    return []
